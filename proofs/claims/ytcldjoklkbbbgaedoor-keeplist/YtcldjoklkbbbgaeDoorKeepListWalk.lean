/-
  dragomanref.KeptAt; KeepList: the walk through the law, by the contracts of what it calls.
-/
import Derived.Test.YtcldjoklkbbbgaeDoorKeepListMath
namespace Go.Proofs.YtcldjoklkbbbgaeDoor
open Go.RowKit Go.PlainAid

set_option maxHeartbeats 1000000 in
theorem keptAt_any (l : List Kp) (n : ByteArray) (ao : Option Addr) (co : Nat) (w : World) (hl : KpsIn w ao l) (hn : l.length ≤ 1152921504606846976) :
    Calls Tryd.prog 9 #[.slice ao l.length co, .string n] w fun e w' => e = .returned (.int .i64 (atF n 0 l)) ∧ w' = w := by
  generalize hE : atF n 0 l = E
  have HE := hide hE
  have HL := hide hl
  clear hE hl
  go_enter Tryd.func9, Tryd.ntmps9
  go_wp2
  go_loop [5] (fun i => ∃ k : Nat, k ≤ l.length ∧ i = .int .i64 k ∧ Hid (atF n k (l.drop k) = E)) (fun i => l.length - (intOf i).toNat)
  case atStart => exact ⟨0, by omega, rfl, HE.out⟩
  case round =>
    obtain ⟨k, hk, rfl, HR⟩ := hrel
    by_cases hlt : k < l.length
    · obtain ⟨b, o, rfl, hb, hcell⟩ := kps_here HL.out hlt
      have hk1 := (hcell k hlt).1
      have HS : Hid (_ = E) := (atF_step n l k hlt).symm.trans HR.out
      clear hcell HL HE
      generalize l[k].topic = t at *
      have HT := hide (txt_eq t n)
      by_cases h : t = n
      · have h' : (t.toList == n.toList) = true := by rw [HT.out]; simp [h]
        have HQ : Hid (E = k) := by rw [← HS.out, if_pos h]; exact rfl
        clear h
        go_wp2
        go_ret
        exact ⟨by rw [HQ.out]; rfl, rfl⟩
      · have h' : (t.toList == n.toList) = false := by rw [HT.out]; simp [h]
        have HQ : Hid (atF n (k + 1) (l.drop (k + 1)) = E) := by rw [← HS.out, if_neg h]; exact rfl
        clear h
        go_wp2
        go_round
        case rel => exact ⟨k + 1, by omega, by go_num, HQ.out⟩
        case measure => simp [intOf]; omega
    · have hke : l.drop k = [] := List.drop_eq_nil_of_le (by omega)
      have HQ : Hid (E = -1) := by have := HR.out; rw [hke, atF] at this; exact this.symm
      clear hke
      go_wp2
      go_ret
      exact ⟨by rw [HQ.out]; rfl, rfl⟩

set_option maxHeartbeats 4000000 in
set_option maxRecDepth 100000 in
theorem keepList_walk (l : List Kp) (ao : Option Addr) (co : Nat) (a b : ByteArray) (w : World) (hl : KpsIn w ao l) (hm : Max w) :
    Calls Tryd.prog 3 #[.slice ao l.length co, .string a, .string b] w fun e w' => e = .returned (.bool true) ∧ Below w.heap.size w w' := by
  have C0 := hide (keepBegun_yes w hm)
  have C1 : Hid (∀ W, Below w.heap.size w W → Calls Tryd.prog 5 #[] W fun e w' => e = .returned (.bool true) ∧ Below W.heap.size W w') := fun W h => topicBegun_yes W (hm.below h)
  have CL : Hid (∀ n W, Below w.heap.size w W → Calls Tryd.prog 6 #[.slice ao l.length co, .string n] W (KPost W (listA l n) (listE l n))) := fun n W h => klist_any l n ao co W (hl.below h) (hm.below h)
  have CM : Hid (∀ t W, Below w.heap.size w W → Calls Tryd.prog 7 #[.string a, .string t] W fun e w' => e = .returned (.tuple #[.bool (matchB a t), .int .i64 (matchE a t)]) ∧ Below W.heap.size W w') := fun t W h => match_any a t W (hm.below h)
  have CV : Hid (∀ W, Below w.heap.size w W → Calls Tryd.prog 8 #[.string a, .string b] W fun e w' => e = .returned (.tuple #[.bool (covB a b), .int .i64 (covE a b)]) ∧ Below W.heap.size W w') := fun W h => covers_any a b W (hm.below h)
  have HL := hide hl
  clear hl hm
  by_cases hA : listE l a = 0
  · have hA' : (listE l a != 0) = false := by simp [hA]
    obtain ⟨hc, hfa, hla⟩ := list_ok hA
    by_cases hB : listE l b = 0
    · have hB' : (listE l b != 0) = false := by simp [hB]
      obtain ⟨_, hfb, hlb⟩ := list_ok hB
      have h16 := ((chkK_iff l).1 hc).1
      have hall := ((chkK_iff l).1 hc).2.1
      have CLA : Hid (∀ W, Below w.heap.size w W → Calls Tryd.prog 6 #[.slice ao l.length co, .string a] W (KPost W (l.filter (forT a)) 0)) := fun W h => by have := CL.out a W h; rwa [hA, hla] at this
      have CLB : Hid (∀ W, Below w.heap.size w W → Calls Tryd.prog 6 #[.slice ao l.length co, .string b] W (KPost W (l.filter (forT b)) 0)) := fun W h => by have := CL.out b W h; rwa [hB, hlb] at this
      have HCV : Hid (covE a b = 0) := by show _ = _; rw [covE_ok hfa, hfb]
      rw [HCV.out] at CV
      have HME : Hid (∀ k (h : k < l.length), matchE a l[k].topic = 0) := fun k h => by rw [matchE_ok hfa]; exact (chkO_topic (hall _ (List.getElem_mem h))).1
      have HIN : Hid (covB a b = true → ∀ k ∈ l.filter (forT b), ∃ x ∈ l.filter (forT a), x.topic = k.topic) := fun hcov k hk => ⟨k, List.mem_filter.2 ⟨(List.mem_filter.1 hk).1, cov_match hfa hfb hcov (List.mem_filter.1 hk).2⟩, rfl⟩
      have hXl : (l.filter (forT a)).length ≤ 16 := Nat.le_trans (List.length_filter_le _ _) h16
      have hYl : (l.filter (forT b)).length ≤ 16 := Nat.le_trans (List.length_filter_le _ _) h16
      clear hA hB hA' hB' hla hlb hfa hfb hc hall CL HCV
      go_enter Tryd.func3, Tryd.ntmps3
      go_wp2_with fail
      refine C0.out.mono ?_
      rintro e w1 ⟨rfl, hb1⟩
      have HB1 := hide hb1
      clear hb1 C0
      go_wp2_with fail
      refine (C1.out _ HB1.out).mono ?_
      rintro e w2 ⟨rfl, hb2⟩
      have HB2 := hide (below_step HB1.out hb2)
      clear hb2 C1 HB1
      go_wp2_with fail
      refine (CLA.out _ HB2.out).mono ?_
      intro e w3 h3
      obtain ⟨aa, ca, rfl, hk3, hb3⟩ := KPost.inn h3
      have HB3 := hide (below_step HB2.out hb3)
      have HK3 := hide hk3
      clear hk3 hb3 h3 CLA HB2
      go_wp2_with fail
      refine (CLB.out _ HB3.out).mono ?_
      intro e w4 h4
      obtain ⟨ab, cb, rfl, hk4, hb4⟩ := KPost.inn h4
      have HB4 := hide (below_step HB3.out hb4)
      have HKX := hide (HK3.out.below hb4)
      have HKY := hide hk4
      clear hk4 hb4 h4 CLB HB3 HK3
      go_wp2_with fail
      go_loopw [11, 12] (fun x i wr => ∃ k : Nat, k ≤ l.length ∧ i = .int .i64 k ∧ x = .int .i64 (((l.take k).filter (forT a)).length : Int) ∧ Hid (Below w4.heap.size w4 wr)) (fun _ i _ => l.length - (intOf i).toNat)
      case atStart => exact ⟨0, by omega, rfl, rfl, Below.refl _ _⟩
      case round =>
        obtain ⟨k, hk, rfl, rfl, HR⟩ := hrel
        by_cases hlt : k < l.length
        · have HBr := hide (below_step HB4.out HR.out)
          obtain ⟨bb, o, rfl, hb, hcell⟩ := kps_here (HL.out.below HBr.out) hlt
          have hme := HME.out k hlt
          obtain ⟨c0, c1, c2⟩ := hcell k hlt
          have C := hide (CM.out l[k].topic wr HBr.out)
          rw [hme] at C
          have HFS := hide (filter_snoc (forT a) l k hlt)
          have HFA := hide (filter_at (forT a) l k hlt)
          have HFT : Hid (forT a l[k] = matchB a l[k].topic) := rfl
          rw [HFT.out] at HFA HFS
          clear hcell hme HFT
          cases hB : matchB a l[k].topic with
          | false =>
            rw [hB] at C HFS
            have HQ : Hid (((l.take (k + 1)).filter (forT a)).length = ((l.take k).filter (forT a)).length) := by show _ = _; have := HFS.out; simpa using congrArg List.length this
            clear hB HFA HFS
            generalize l[k].topic = t at *
            generalize l[k].payload = p at *
            generalize l[k].ver = v at *
            go_wp2_with fail
            refine C.out.mono ?_
            rintro e w5 ⟨rfl, hb5⟩
            have HB5 := hide (below_step HR.out hb5)
            clear hb5
            go_wp2
            go_round
            case rel => exact ⟨k + 1, by omega, by go_num, by rw [HQ.out], HB5.out⟩
            case measure => simp [intOf]; omega
          | true =>
            rw [hB] at C HFS
            have HQ : Hid (((l.take (k + 1)).filter (forT a)).length = ((l.take k).filter (forT a)).length + 1) := by show _ = _; have := HFS.out; simpa using congrArg List.length this
            obtain ⟨f1, f2⟩ := HFA.out hB
            obtain ⟨xb, xo, rfl, hxb, hxc⟩ := kps_here (HKX.out.below HR.out) f1
            obtain ⟨x0, x1, x2⟩ := hxc _ f1
            rw [f2] at x0 x1 x2
            clear hB HFA HFS f2 hxc
            generalize l[k].topic = t at *
            generalize l[k].payload = p at *
            generalize l[k].ver = v at *
            generalize ((l.take k).filter (forT a)).length = m at *
            have f1' : (m : Int) < (l.filter (forT a)).length := by omega
            have g1 : decide (((l.filter (forT a)).length : Int) ≤ (m : Int)) = false := decide_eq_false (by omega)
            have g2 : decide ((l.filter (forT a)).length ≤ m) = false := decide_eq_false (by omega)
            go_wp2_with fail
            refine C.out.mono ?_
            rintro e w5 ⟨rfl, hb5⟩
            have HB5 := hide (below_step HR.out hb5)
            have y0 := (hb5.cell (p := ⟨xb, _, none⟩) hxb).trans x0
            have y1 := (hb5.cell (p := ⟨xb, _, none⟩) hxb).trans x1
            have y2 := (hb5.cell (p := ⟨xb, _, none⟩) hxb).trans x2
            have z0 := (hb5.cell (p := ⟨bb, _, none⟩) hb).trans c0
            have z1 := (hb5.cell (p := ⟨bb, _, none⟩) hb).trans c1
            have z2 := (hb5.cell (p := ⟨bb, _, none⟩) hb).trans c2
            clear hb5 x0 x1 x2 c0 c1 c2
            go_wp2_with fail
            go_big_quiet (fail)
            go_wp2
            go_round
            case rel => exact ⟨k + 1, by omega, by go_num, by rw [HQ.out]; go_num, kbelow_drewN HB5.out _⟩
            case measure => simp [intOf]; omega
        · have hke : l.take k = l := List.take_of_length_le (by omega)
          rw [hke]
          have HBr := hide (below_step HB4.out HR.out)
          have HKX := hide (HKX.out.below HR.out)
          have HKY := hide (HKY.out.below HR.out)
          clear hke HME CM
          go_wp2_with fail
          refine (CV.out _ HBr.out).mono ?_
          rintro e w6 ⟨rfl, hb6⟩
          have HB6 := hide (below_step HBr.out hb6)
          have HKX := hide (HKX.out.below hb6)
          have HKY := hide (HKY.out.below hb6)
          have CK := hide (fun n => keptAt_any (l.filter (forT a)) n aa ca w6 HKX.out (by omega))
          have HAT : Hid (covB a b = true → ∀ j (h : j < (l.filter (forT b)).length), 0 ≤ atF (l.filter (forT b))[j].topic 0 (l.filter (forT a))) := fun hc j h => atF_in _ _ _ (HIN.out hc _ (List.getElem_mem h))
          clear hb6 CV HIN HKX HBr
          generalize l.filter (forT a) = X at *
          generalize l.filter (forT b) = Y at *
          generalize covB a b = B at *
          cases B with
          | false =>
            go_wp2_with fail
            go_loop [16] (fun i => i = .int .i64 0) (fun _ => 0)
            case atStart => exact rfl
            case round =>
              obtain rfl := hrel
              by_cases hy : 0 < Y.length
              · go_wp2
                go_ret
                exact ⟨rfl, HB6.out⟩
              · go_wp2
                go_ret
                exact ⟨rfl, HB6.out⟩
          | true =>
            have HAT2 : Hid (∀ j (h : j < Y.length), 0 ≤ atF Y[j].topic 0 X) := HAT.out rfl
            clear HAT
            go_wp2_with fail
            go_loop [16] (fun i => ∃ j : Nat, j ≤ Y.length ∧ i = .int .i64 j) (fun i => Y.length - (intOf i).toNat)
            case atStart => exact ⟨0, by omega, rfl⟩
            case round =>
              obtain ⟨j, hj, rfl⟩ := hrel
              by_cases hjl : j < Y.length
              · obtain ⟨yb, yo, rfl, hyb, hyc⟩ := kps_here HKY.out hjl
                have y0 := (hyc j hjl).1
                have hat : 0 ≤ atF Y[j].topic 0 X := HAT2.out j hjl
                have C := hide (CK.out Y[j].topic)
                clear hyc
                generalize Y[j].topic = t at *
                generalize atF t 0 X = N at *
                go_wp2_with fail
                refine C.out.mono ?_
                rintro e w7 ⟨rfl, h7⟩
                subst h7
                go_wp2
                go_round
                case rel => exact ⟨j + 1, by omega, by go_num⟩
                case measure => simp [intOf]; omega
              · go_wp2
                go_ret
                exact ⟨rfl, HB6.out⟩
    · have hB' : (listE l b != 0) = true := by simp [hB]
      have CLA : Hid (∀ W, Below w.heap.size w W → Calls Tryd.prog 6 #[.slice ao l.length co, .string a] W (KPost W (l.filter (forT a)) 0)) := fun W h => by have := CL.out a W h; rwa [hA, hla] at this
      have CLB := hide (CL.out b)
      clear hA hA' hB hla hfa hc CL CM CV HL
      generalize listE l b = LE at *
      generalize listA l b = LB at *
      go_enter Tryd.func3, Tryd.ntmps3
      go_wp2_with fail
      refine C0.out.mono ?_
      rintro e w1 ⟨rfl, hb1⟩
      have HB1 := hide hb1
      clear hb1 C0
      go_wp2_with fail
      refine (C1.out _ HB1.out).mono ?_
      rintro e w2 ⟨rfl, hb2⟩
      have HB2 := hide (below_step HB1.out hb2)
      clear hb2 C1 HB1
      go_wp2_with fail
      refine (CLA.out _ HB2.out).mono ?_
      intro e w3 h3
      obtain ⟨aa, ca, rfl, hk3, hb3⟩ := KPost.inn h3
      have HB3 := hide (below_step HB2.out hb3)
      clear hk3 hb3 h3 CLA HB2
      go_wp2_with fail
      refine (CLB.out _ HB3.out).mono ?_
      intro e w4 h4
      obtain ⟨ab, cb, rfl, hk4, hb4⟩ := KPost.inn h4
      have HB4 := hide (below_step HB3.out hb4)
      clear hk4 hb4 h4 CLB HB3
      go_wp2
      go_ret
      exact ⟨rfl, HB4.out⟩
  · have hA' : (listE l a != 0) = true := by simp [hA]
    have hA2 : (listE l a == 0) = false := by simp [hA]
    have hla : listA l a = [] := if_neg hA
    have CLA := hide (CL.out a)
    have CLB := hide (CL.out b)
    rw [hla] at CLA
    clear hA hla CL CM CV HL
    generalize listE l a = LF at *
    generalize listE l b = LE at *
    generalize listA l b = LB at *
    go_enter Tryd.func3, Tryd.ntmps3
    go_wp2_with fail
    refine C0.out.mono ?_
    rintro e w1 ⟨rfl, hb1⟩
    have HB1 := hide hb1
    clear hb1 C0
    go_wp2_with fail
    refine (C1.out _ HB1.out).mono ?_
    rintro e w2 ⟨rfl, hb2⟩
    have HB2 := hide (below_step HB1.out hb2)
    clear hb2 C1 HB1
    go_wp2_with fail
    refine (CLA.out _ HB2.out).mono ?_
    intro e w3 h3
    obtain ⟨aa, ca, rfl, hk3, hb3⟩ := KPost.inn h3
    have HB3 := hide (below_step HB2.out hb3)
    clear hk3 hb3 h3 CLA HB2
    go_wp2_with fail
    refine (CLB.out _ HB3.out).mono ?_
    intro e w4 h4
    obtain ⟨ab, cb, rfl, hk4, hb4⟩ := KPost.inn h4
    have HB4 := hide (below_step HB3.out hb4)
    clear hk4 hb4 h4 CLB HB3
    go_wp2
    go_ret
    exact ⟨rfl, HB4.out⟩

theorem keepList_lift {w : World} (l : List Kp) (ao : Option Addr) (co : Nat) (hl : KpsIn w ao l) (a b : ByteArray) (hm : Max w) :
    Calls Tryd.prog 3 #[.slice ao l.length co, .string a, .string b] w fun e w' => e = .returned (.bool true) ∧ Below w.heap.size w w' := keepList_walk l ao co a b w hl hm
end Go.Proofs.YtcldjoklkbbbgaeDoor
