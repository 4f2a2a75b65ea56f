/-
  dragomanlaw.OptionTwice: true.
-/
import Derived.Test.YtgmjdelgocbcaacDoorOptBegun
import Derived.Test.YtgmjdelgocbcaacDoorOptMath
namespace Go.Proofs.YtgmjdelgocbcaacDoor
open Go.RowKit Go.PlainAid

theorem wu_len (m : Mg) (n a : Int) : (wuM m n a).opts.length ≤ 12 := by
  by_cases h : wuE m n a = 0
  · obtain ⟨_, _, _, h2, h3⟩ := wu_ok h
    rw [h2]; exact (chkM_ok h3).2.2.2.2.1
  · rw [wu_bad h]; decide

set_option maxHeartbeats 8000000 in
set_option maxRecDepth 100000 in
theorem optionTwice_any (m : Mg) (ao : Option Addr) (co : Nat) (n a b : Int) (w : World) (hl : OptsIn w ao m.opts) (hm : Max w) :
    Calls Tryd.prog 3 #[mgV m ao co, .int .i64 n, .int .i64 a, .int .i64 b] w fun e w' => e = .returned (.bool true) ∧ Below w.heap.size w w' := by
  have P0 := hide (fun W (h : Below w.heap.size w W) => optionBegun_yes W (hm.below h))
  have P1 : Hid (∀ W, Below w.heap.size w W → Calls Tryd.prog 7 #[mgV m ao co, .int .i64 n, .int .i64 a] W (NewW W (wuM m n a) (wuE m n a))) := fun W h => withUint_any m ao co n a W (hl.below h)
  have P3 : Hid (∀ W, Below w.heap.size w W → Calls Tryd.prog 7 #[mgV m ao co, .int .i64 n, .int .i64 b] W (NewW W (wuM m n b) (wuE m n b))) := fun W h => withUint_any m ao co n b W (hl.below h)
  have P2 : Hid (wuE m n a = 0 → ∀ W aa ca, OptsIn W aa (wuM m n a).opts → Calls Tryd.prog 7 #[mgV (wuM m n a) aa ca, .int .i64 n, .int .i64 b] W (NewW W (wuM m n b) (wuE m n b))) := fun h W aa ca ho => by
    have := withUint_any (wuM m n a) aa ca n b W ho
    rwa [(wu_again h b).1, (wu_again h b).2] at this
  have P4 : Hid (∀ W aa ca ab cb, OptsIn W aa (wuM m n b).opts → OptsIn W ab (wuM m n b).opts → Calls Tryd.prog 8 #[mgV (wuM m n b) aa ca, mgV (wuM m n b) ab cb] W fun e w' => e = .returned (.bool true) ∧ Below W.heap.size W w') := fun W aa ca ab cb h1 h2 => msame_yes (wuM m n b) aa ab ca cb W h1 h2 (Nat.le_trans (wu_len m n b) (by decide))
  have HB : Hid (wuE m n a ≠ 0 → (wuM m n a).opts = []) := fun h => by rw [wu_bad h]; rfl
  have HG : Hid (wuE m n a = 0 → (0 ≤ a ∧ a ≤ 16777215) ∧ (wuM m n a).opts.length ≤ 12 ∧ ∃ P : Nat, (wuM m n a).opts[P]? = some (n, shortS a) ∧ ∀ j o, j < P → (wuM m n a).opts[j]? = some o → o.1 < n) := fun h => by
    obtain ⟨_, h0, h1, h2, h3⟩ := wu_ok h
    refine ⟨⟨h0, h1⟩, wu_len m n a, ?_⟩
    obtain ⟨P, hP, e1, e2⟩ := with_first m.opts n (shortS a)
    have e : (wuM m n a).opts = withL m.opts n [shortS a] := by rw [h2]; rfl
    rw [e]
    refine ⟨P, by rw [List.getElem?_eq_getElem hP, e1], fun j o hj ho => ?_⟩
    rw [List.getElem?_eq_getElem (by omega)] at ho
    have := e2 j hj
    rw [Option.some.inj ho] at this
    exact this
  clear hl hm
  generalize wuM m n a = MX at *
  generalize wuM m n b = MZ at *
  generalize hEX : wuE m n a = EX at *
  clear hEX
  generalize wuE m n b = EZ at *
  obtain ⟨k, c, i, t, l, p⟩ := m
  obtain ⟨k1, c1, i1, t1, l1, p1⟩ := MX
  obtain ⟨k2, c2, i2, t2, l2, p2⟩ := MZ
  simp only [mgV] at P1 P2 P3 P4 HB HG ⊢
  have HB0 := hide ((Below.refl w.heap.size w).alloc (Nat.le_refl _) (.cells #[.int .i64 k, .int .i64 c, .int .i64 i, .string t, .slice ao l.length co, .string p] 24))
  have HX0 : Hid ((w.alloc (.cells #[.int .i64 k, .int .i64 c, .int .i64 i, .string t, .slice ao l.length co, .string p] 24)).heap[w.heap.size]? = some (.cells #[.int .i64 k, .int .i64 c, .int .i64 i, .string t, .slice ao l.length co, .string p] 24 (0, 0))) := Go.heap_alloc_new w _
  go_enter Tryd.func3, Tryd.ntmps3
  go_upto_region 1 with fail
  revert HB0 HX0
  generalize w.alloc (.cells #[.int .i64 k, .int .i64 c, .int .i64 i, .string t, .slice ao l.length co, .string p] 24) = W0
  intro HB0 HX0
  go_wp2_with fail
  refine (P0.out _ HB0.out).mono ?_
  rintro e w1 ⟨rfl, hb1⟩
  have HB1 := hide (below_step HB0.out hb1)
  have HX0 := hide (box_step HX0.out hb1)
  have q0 : ∀ o, w1.cell? ⟨w.heap.size, o, none⟩ = (#[.int .i64 k, .int .i64 c, .int .i64 i, .string t, .slice ao l.length co, .string p] : Array Value)[o]? := fun o => Lib.cell_of_heap HX0.out o
  clear hb1 HB0
  go_wp2_with fail
  refine (P1.out _ HB1.out).mono ?_
  rintro e w2 ⟨xa, xc, rfl, ho2, _, hb2⟩
  simp only [mgV]
  have HB2 := hide (below_step HB1.out hb2)
  have HX0 := hide (box_step HX0.out hb2)
  have HO2 := hide ho2
  clear hb2 ho2 HB1 q0
  by_cases hE : EX = 0
  · subst hE
    obtain ⟨⟨ha0, ha1⟩, hl1, P, hP1, hP2⟩ := HG.out rfl
    have HP := hide (And.intro hP1 hP2)
    clear hP1 hP2
    have P2n := hide (P2.out rfl)
    clear HG HB P1 P0 P2
    go_upto_region 6 with fail
    have HX9 : Hid ((w2.alloc (.cells #[.int .i64 k1, .int .i64 c1, .int .i64 i1, .string t1, .slice xa l1.length xc, .string p1] 24)).heap[w2.heap.size]? = some (.cells #[.int .i64 k1, .int .i64 c1, .int .i64 i1, .string t1, .slice xa l1.length xc, .string p1] 24 (0, 0))) := Go.heap_alloc_new w2 _
    have HB3 := hide (HB2.out.alloc HB2.out.size (.cells #[.int .i64 k1, .int .i64 c1, .int .i64 i1, .string t1, .slice xa l1.length xc, .string p1] 24))
    have HX0 := hide (box_step HX0.out ((Below.refl _ w2).alloc (Nat.le_refl _) (.cells #[.int .i64 k1, .int .i64 c1, .int .i64 i1, .string t1, .slice xa l1.length xc, .string p1] 24)))
    have HO3 := hide (HO2.out.alloc (.cells #[.int .i64 k1, .int .i64 c1, .int .i64 i1, .string t1, .slice xa l1.length xc, .string p1] 24))
    clear HB2 HO2
    revert HX9 HB3 HX0 HO3
    generalize w2.alloc (.cells #[.int .i64 k1, .int .i64 c1, .int .i64 i1, .string t1, .slice xa l1.length xc, .string p1] 24) = W3
    intro HX9 HB3 HX0 HO3
    generalize w2.heap.size = b9 at *
    have q9 : ∀ o, W3.cell? ⟨b9, o, none⟩ = (#[.int .i64 k1, .int .i64 c1, .int .i64 i1, .string t1, .slice xa l1.length xc, .string p1] : Array Value)[o]? := fun o => Lib.cell_of_heap HX9.out o
    go_wp2_with fail
    refine (P2n.out _ _ _ HO3.out).mono ?_
    rintro e w4 ⟨ya, yc, rfl, ho4, _, hb4⟩
    simp only [mgV]
    have HB4 := hide (below_step HB3.out hb4)
    have HX0 := hide (box_step HX0.out hb4)
    have HX9 := hide (box_step HX9.out hb4)
    have HO3 := hide (HO3.out.below hb4)
    have HY4 := hide ho4
    clear hb4 ho4 HB3 q9
    go_upto_region 7 with fail
    have hal := (Below.refl w4.heap.size w4).alloc (Nat.le_refl _) (.cells #[.int .i64 k2, .int .i64 c2, .int .i64 i2, .string t2, .slice ya l2.length yc, .string p2] 24)
    have HX11 : Hid ((w4.alloc (.cells #[.int .i64 k2, .int .i64 c2, .int .i64 i2, .string t2, .slice ya l2.length yc, .string p2] 24)).heap[w4.heap.size]? = some (.cells #[.int .i64 k2, .int .i64 c2, .int .i64 i2, .string t2, .slice ya l2.length yc, .string p2] 24 (0, 0))) := Go.heap_alloc_new w4 _
    have HB5 := hide (below_step HB4.out hal)
    have HX0 := hide (box_step HX0.out hal)
    have HX9 := hide (box_step HX9.out hal)
    have HO3 := hide (HO3.out.below hal)
    have HY4 := hide (HY4.out.below hal)
    clear HB4
    revert HX11 HB5 HX0 HX9 HO3 HY4
    clear hal
    generalize w4.alloc (.cells #[.int .i64 k2, .int .i64 c2, .int .i64 i2, .string t2, .slice ya l2.length yc, .string p2] 24) = W5
    intro HX11 HB5 HX0 HX9 HO3 HY4
    generalize w4.heap.size = b11 at *
    have q0 : ∀ o, W5.cell? ⟨w.heap.size, o, none⟩ = (#[.int .i64 k, .int .i64 c, .int .i64 i, .string t, .slice ao l.length co, .string p] : Array Value)[o]? := fun o => Lib.cell_of_heap HX0.out o
    go_wp2_with fail
    refine (P3.out _ HB5.out).mono ?_
    rintro e w6 ⟨za, zc, rfl, ho6, _, hb6⟩
    simp only [mgV]
    have HB6 := hide (below_step HB5.out hb6)
    have HX9 := hide (box_step HX9.out hb6)
    have HX11 := hide (box_step HX11.out hb6)
    have HO3 := hide (HO3.out.below hb6)
    have HY4 := hide (HY4.out.below hb6)
    have HZ6 := hide ho6
    clear hb6 ho6 HB5 q0 HX0
    go_upto_region 8 with fail
    have hal := (Below.refl w6.heap.size w6).alloc (Nat.le_refl _) (.cells #[.int .i64 k2, .int .i64 c2, .int .i64 i2, .string t2, .slice za l2.length zc, .string p2] 24)
    have HX12 : Hid ((w6.alloc (.cells #[.int .i64 k2, .int .i64 c2, .int .i64 i2, .string t2, .slice za l2.length zc, .string p2] 24)).heap[w6.heap.size]? = some (.cells #[.int .i64 k2, .int .i64 c2, .int .i64 i2, .string t2, .slice za l2.length zc, .string p2] 24 (0, 0))) := Go.heap_alloc_new w6 _
    have HB7 := hide (below_step HB6.out hal)
    have HX9 := hide (box_step HX9.out hal)
    have HX11 := hide (box_step HX11.out hal)
    have HO3 := hide (HO3.out.below hal)
    have HY4 := hide (HY4.out.below hal)
    have HZ6 := hide (HZ6.out.below hal)
    clear HB6
    revert HX12 HB7 HX11 HX9 HO3 HY4 HZ6
    clear hal
    generalize w6.alloc (.cells #[.int .i64 k2, .int .i64 c2, .int .i64 i2, .string t2, .slice za l2.length zc, .string p2] 24) = W7
    intro HX12 HB7 HX9 HX11 HO3 HY4 HZ6
    generalize w6.heap.size = b12 at *
    have q11 : ∀ o, W7.cell? ⟨b11, o, none⟩ = (#[.int .i64 k2, .int .i64 c2, .int .i64 i2, .string t2, .slice ya l2.length yc, .string p2] : Array Value)[o]? := fun o => Lib.cell_of_heap HX11.out o
    have q12 : ∀ o, W7.cell? ⟨b12, o, none⟩ = (#[.int .i64 k2, .int .i64 c2, .int .i64 i2, .string t2, .slice za l2.length zc, .string p2] : Array Value)[o]? := fun o => Lib.cell_of_heap HX12.out o
    clear HX11 HX12
    go_cut [57] (fun x wr => x = .bool false ∧ Hid (Below w.heap.size w wr ∧ wr.heap[b9]? = some (.cells #[.int .i64 k1, .int .i64 c1, .int .i64 i1, .string t1, .slice xa l1.length xc, .string p1] 24 (0, 0)) ∧ OptsIn wr xa l1))
    case first =>
      by_cases hz : EZ = 0
      · subst hz
        go_wp2_with fail
        refine (P4.out _ _ _ _ _ HY4.out HZ6.out).mono ?_
        rintro e w8 ⟨rfl, hb8⟩
        have HR : Hid (Below w.heap.size w w8 ∧ w8.heap[b9]? = some (.cells #[.int .i64 k1, .int .i64 c1, .int .i64 i1, .string t1, .slice xa l1.length xc, .string p1] 24 (0, 0)) ∧ OptsIn w8 xa l1) := ⟨below_step HB7.out hb8, box_step HX9.out hb8, HO3.out.below hb8⟩
        clear hb8
        go_wp2_with fail
        go_meet
        case rel => exact ⟨rfl, HR⟩
      · have hz' : (EZ == 0) = false := by simp [hz]
        clear hz
        have HR : Hid (Below w.heap.size w W7 ∧ W7.heap[b9]? = some (.cells #[.int .i64 k1, .int .i64 c1, .int .i64 i1, .string t1, .slice xa l1.length xc, .string p1] 24 (0, 0)) ∧ OptsIn W7 xa l1) := ⟨HB7.out, HX9.out, HO3.out⟩
        go_wp2_with fail
        go_meet
        case rel => exact ⟨rfl, HR⟩
    case rest =>
      obtain ⟨rfl, HR⟩ := hcut
      clear q11 q12 HB7 HX9 HO3 HY4 HZ6 P2n P3 P4
      have q9 : ∀ o, wc.cell? ⟨b9, o, none⟩ = (#[.int .i64 k1, .int .i64 c1, .int .i64 i1, .string t1, .slice xa l1.length xc, .string p1] : Array Value)[o]? := fun o => Lib.cell_of_heap HR.out.2.1 o
      go_wp2
      go_loop [14] (fun x => ∃ k : Nat, k ≤ P ∧ x = .int .i64 k) (fun x => P - (intOf x).toNat)
      case atStart => exact ⟨0, by omega, rfl⟩
      case round =>
        obtain ⟨j, hj, rfl⟩ := hrel
        have hPl : P < l1.length := (List.getElem?_eq_some_iff.1 HP.out.1).1
        have hlt : j < l1.length := by omega
        have hlt' : (j : Int) < l1.length := by omega
        obtain ⟨bx, ox, rfl, hbx, hcell⟩ := opts_here HR.out.2.2 hlt
        have hc1 := (hcell j hlt).1
        have hc2 := (hcell j hlt).2
        by_cases hjP : j < P
        · have hn := HP.out.2 j l1[j] hjP (List.getElem?_eq_getElem hlt)
          generalize l1[j] = y at *
          obtain ⟨y1, y2⟩ := y
          simp only at hc1 hc2 hn
          have hne : (y1 != n) = true := by simp; omega
          have hn2 : ¬ y1 = n := by omega
          clear hcell HP
          go_wp2
          go_round
          case rel => exact ⟨j + 1, by omega, by go_num⟩
          case measure => simp [intOf]; omega
        · have hje : j = P := by omega
          subst hje
          have hy : l1[j] = (n, shortS a) := Option.some.inj ((List.getElem?_eq_getElem hlt).symm.trans HP.out.1)
          rw [hy] at hc1 hc2
          simp only at hc1 hc2
          have hsz := short_size ha0 ha1
          have hne : (n != n) = false := by simp
          have HB9 := hide HR.out.1
          clear HR HP hcell hy
          generalize shortS a = S at *
          by_cases z0 : a = 0
          · have e0 : S.size = 0 := by rw [hsz, if_pos z0]
            have e1 : ((S.size : Int) == 0) = true := by simp [e0]
            have e2 : (a == 0) = true := by simp [z0]
            clear hsz z0
            go_wp2
            go_ret
            exact ⟨rfl, HB9.out⟩
          · by_cases z1 : a < 256
            · have e0 : S.size = 1 := by rw [hsz, if_neg z0, if_pos z1]
              have e1 : ((S.size : Int) == 0) = false := by simp [e0]
              have e2 : ((S.size : Int) == 1) = true := by simp [e0]
              have e3 : decide (0 < a) = true := by simp; omega
              have e4 : decide (a < 256) = true := by simp; omega
              clear hsz z0 z1
              go_wp2
              go_ret
              exact ⟨rfl, HB9.out⟩
            · by_cases z2 : a < 65536
              · have e0 : S.size = 2 := by rw [hsz, if_neg z0, if_neg z1, if_pos z2]
                have e1 : ((S.size : Int) == 0) = false := by simp [e0]
                have e2 : ((S.size : Int) == 1) = false := by simp [e0]
                have e5 : ((S.size : Int) == 2) = true := by simp [e0]
                have e3 : decide (256 ≤ a) = true := by simp; omega
                have e4 : decide (a < 65536) = true := by simp; omega
                clear hsz z0 z1 z2
                go_wp2
                go_ret
                exact ⟨rfl, HB9.out⟩
              · have e0 : S.size = 3 := by rw [hsz, if_neg z0, if_neg z1, if_neg z2]
                have e1 : ((S.size : Int) == 0) = false := by simp [e0]
                have e2 : ((S.size : Int) == 1) = false := by simp [e0]
                have e5 : ((S.size : Int) == 2) = false := by simp [e0]
                have e6 : ((S.size : Int) == 3) = true := by simp [e0]
                have e3 : decide (65536 ≤ a) = true := by simp; omega
                clear hsz z0 z1 z2
                go_wp2
                go_ret
                exact ⟨rfl, HB9.out⟩
  · have hE' : (EX != 0) = true := by simp [hE]
    have hl0 := HB.out hE
    subst hl0
    clear HG HB P2 P3 P4 P0 P1 HO2 HX0 hE
    have HBE := hide (HB2.out.alloc HB2.out.size (.cells #[.int .i64 k1, .int .i64 c1, .int .i64 i1, .string t1, .slice xa 0 xc, .string p1] 24))
    go_wp2
    go_ret
    exact ⟨rfl, HBE.out⟩
theorem optionTwice_lift (m : Mg) (ao : Option Addr) (co : Nat) {w : World} (hl : OptsIn w ao m.opts) (n a b : Int) (hm : Max w) :
    Calls Tryd.prog 3 #[mgV m ao co, .int .i64 n, .int .i64 a, .int .i64 b] w fun e w' => e = .returned (.bool true) ∧ Below w.heap.size w w' := optionTwice_any m ao co n a b w hl hm
end Go.Proofs.YtgmjdelgocbcaacDoor
