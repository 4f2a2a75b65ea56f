/-
  dragomanlaw.sess, dragomanlaw.sessionBegun: what they answer.
-/
import Derived.Test.YtnhcecgmcmcioaaDoorSesSendCall
namespace Go.Proofs.YtnhcecgmcmcioaaDoor
open Go.RowKit Go.PlainAid

def SB0 : Se := ⟨⟨#[97, 110, 110]⟩, true, false, [], [], 65535⟩
def SF1 : Fl := ⟨65535, ⟨#[97]⟩, ⟨#[120]⟩⟩
def SF2 : Fl := ⟨1, ⟨#[97]⟩, ⟨#[121]⟩⟩
def SB1 : Se := ⟨⟨#[97, 110, 110]⟩, true, false, [SF1], [], 1⟩
def SB2 : Se := ⟨⟨#[97, 110, 110]⟩, true, false, [SF1, SF2], [], 2⟩
def SB3 : Se := ⟨⟨#[97, 110, 110]⟩, true, false, [SF2], [], 2⟩
def SB4 : Se := ⟨⟨#[97, 110, 110]⟩, false, false, [SF2], [], 2⟩
def SB5 : Se := ⟨⟨#[97, 110, 110]⟩, true, false, [SF2], [], 2⟩
theorem sb_1 : sendE SB0 ⟨#[97]⟩ ⟨#[120]⟩ 1 = 0 ∧ sendR SB0 ⟨#[97]⟩ ⟨#[120]⟩ 1 = (SB1, [flP SF1 false]) := ⟨by kernel_rfl, by kernel_rfl⟩
theorem sb_2 : sendE SB1 ⟨#[97]⟩ ⟨#[121]⟩ 1 = 0 ∧ sendR SB1 ⟨#[97]⟩ ⟨#[121]⟩ 1 = (SB2, [flP SF2 false]) := ⟨by kernel_rfl, by kernel_rfl⟩
theorem sb_3 : chkS SB2 = 0 ∧ landR SB2 65535 = (SB3, []) := ⟨by kernel_rfl, by kernel_rfl⟩
theorem sb_4 : chkS SB3 = 0 ∧ goR SB3 = SB4 := ⟨by kernel_rfl, by kernel_rfl⟩
theorem sb_5 : chkS SB4 = 0 ∧ comeR SB4 = (SB5, [flP SF2 true]) := ⟨by kernel_rfl, by kernel_rfl⟩

theorem sess_any (w : World) : Calls Tryd.prog 36 #[] w fun e w' => e = .returned (.agg #[.string ⟨#[97, 110, 110]⟩, .bool true, .bool false, .slice none 0 0, .slice none 0 0, .int .i64 65535]) ∧ Below w.heap.size w w' := by
  have HB := hide ((Below.refl w.heap.size w).alloc (Nat.le_refl _) (.cells #[.string ⟨#[97, 110, 110]⟩, .bool true, .bool false, .slice none 0 0, .slice none 0 0, .int .i64 65535] 24))
  go_enter Tryd.func36, Tryd.ntmps36
  go_wp2
  exact bodyPost_ret (v := .agg #[.string ⟨#[97, 110, 110]⟩, .bool true, .bool false, .slice none 0 0, .slice none 0 0, .int .i64 65535]) (by simp [results, Tryd.results36, go_sem]) rfl ⟨rfl, by first | exact HB.out | exact six_below (Below.refl _ _)⟩

theorem one_sent {N : Nat} {s : Se} {p : Pk} {a1 a2 ao : Option Addr} {c1 c2 cs : Nat} {W : World} (h : OutS N (s, [p]) a1 c1 a2 c2 ao cs W) : ∃ g, ao = some ⟨g, 0, none⟩ ∧ 1 ≤ cs ∧ W.cell? ⟨g, 1, none⟩ = some (.bool p.dup) ∧ W.cell? ⟨g, 6, none⟩ = some (.int .i64 p.id) := by
  have hs : W.ownsRow N 57 14 (.slice ao 1 cs) 1 (spCells [p]) := h.sent
  obtain ⟨g, rfl⟩ : ∃ g, ao = some ⟨g, 0, none⟩ := by
    rcases hs.2 with ⟨_, h0⟩ | ⟨g, cap, cur, hv, _⟩
    · cases h0
    · injection hv with e _ _; exact ⟨g, e⟩
  obtain ⟨k1, _, k3⟩ := kown_there hs
  exact ⟨g, rfl, k3, (k1 1 (by omega)).trans (by rfl), (k1 6 (by omega)).trans (by rfl)⟩

set_option maxHeartbeats 4000000 in
set_option maxRecDepth 100000 in
theorem sessionBegun_yes (w : World) (hm : Max w) : Calls Tryd.prog 15 #[] w fun e w' => e = .returned (.bool true) ∧ Below w.heap.size w w' := by
  have C1 : Hid (∀ W, Below w.heap.size w W → Calls Tryd.prog 5 #[.agg #[.string ⟨#[97, 110, 110]⟩, .bool true, .bool false, .slice none 0 0, .slice none 0 0, .int .i64 65535], .string ⟨#[97]⟩, .string ⟨#[120]⟩, .int .i64 1] W fun e w' => ∃ a1 c1 a2 c2 ao cs, e = .returned (.tuple #[.agg #[.string ⟨#[97, 110, 110]⟩, .bool true, .bool false, .slice a1 1 c1, .slice a2 0 c2, .int .i64 1], .slice ao 1 cs, .int .i64 0]) ∧ OutS W.heap.size (SB1, [flP SF1 false]) a1 c1 a2 c2 ao cs w' ∧ Below W.heap.size W w') := fun W h => by
    have := send_any SB0 none none 0 0 ⟨#[97]⟩ ⟨#[120]⟩ 1 W ⟨.inl rfl, .inl rfl⟩ (Nat.le_refl _) (hm.below h)
    rw [sb_1.1, sb_1.2] at this
    exact this
  have C2 : Hid (∀ W a1 c1 a2 c2, Below w.heap.size w W → SeIn W SB1 a1 a2 → 1 ≤ c1 → Calls Tryd.prog 5 #[.agg #[.string ⟨#[97, 110, 110]⟩, .bool true, .bool false, .slice a1 1 c1, .slice a2 0 c2, .int .i64 1], .string ⟨#[97]⟩, .string ⟨#[121]⟩, .int .i64 1] W fun e w' => ∃ a1 c1 a2 c2 ao cs, e = .returned (.tuple #[.agg #[.string ⟨#[97, 110, 110]⟩, .bool true, .bool false, .slice a1 2 c1, .slice a2 0 c2, .int .i64 2], .slice ao 1 cs, .int .i64 0]) ∧ OutS W.heap.size (SB2, [flP SF2 false]) a1 c1 a2 c2 ao cs w' ∧ Below W.heap.size W w') := fun W a1 c1 a2 c2 h hs hc => by
    have := send_any SB1 a1 a2 c1 c2 ⟨#[97]⟩ ⟨#[121]⟩ 1 W hs hc (hm.below h)
    rw [sb_2.1, sb_2.2] at this
    exact this
  have C3 : Hid (∀ W a1 c1 a2 c2, Below w.heap.size w W → SeIn W SB2 a1 a2 → 2 ≤ c1 → Calls Tryd.prog 6 #[.agg #[.string ⟨#[97, 110, 110]⟩, .bool true, .bool false, .slice a1 2 c1, .slice a2 0 c2, .int .i64 2], .int .i64 65535] W fun e w' => ∃ a1 c1 a2 c2 ao cs, e = .returned (.tuple #[.agg #[.string ⟨#[97, 110, 110]⟩, .bool true, .bool false, .slice a1 1 c1, .slice a2 0 c2, .int .i64 2], .slice ao 0 cs, .int .i64 0]) ∧ OutS W.heap.size (SB3, []) a1 c1 a2 c2 ao cs w' ∧ Below W.heap.size W w') := fun W a1 c1 a2 c2 h hs hc => by
    have := landed_any SB2 a1 a2 c1 c2 65535 W hs hc (hm.below h)
    rw [sb_3.1, sb_3.2] at this
    exact this
  have C4 : Hid (∀ W a1 c1 a2 c2, Below w.heap.size w W → SeIn W SB3 a1 a2 → 1 ≤ c1 → Calls Tryd.prog 8 #[.agg #[.string ⟨#[97, 110, 110]⟩, .bool true, .bool false, .slice a1 1 c1, .slice a2 0 c2, .int .i64 2]] W fun e w' => ∃ a1 c1 a2 c2, e = .returned (.tuple #[.agg #[.string ⟨#[97, 110, 110]⟩, .bool false, .bool false, .slice a1 1 c1, .slice a2 0 c2, .int .i64 2], .int .i64 0]) ∧ OutS W.heap.size (SB4, []) a1 c1 a2 c2 none 0 w' ∧ Below W.heap.size W w') := fun W a1 c1 a2 c2 h hs hc => by
    have := go_any SB3 a1 a2 c1 c2 W hs hc (hm.below h)
    rw [sb_4.1, sb_4.2] at this
    exact this
  have C5 : Hid (∀ W a1 c1 a2 c2, Below w.heap.size w W → SeIn W SB4 a1 a2 → 1 ≤ c1 → Calls Tryd.prog 7 #[.agg #[.string ⟨#[97, 110, 110]⟩, .bool false, .bool false, .slice a1 1 c1, .slice a2 0 c2, .int .i64 2]] W fun e w' => ∃ a1 c1 a2 c2 ao cs, e = .returned (.tuple #[.agg #[.string ⟨#[97, 110, 110]⟩, .bool true, .bool false, .slice a1 1 c1, .slice a2 0 c2, .int .i64 2], .slice ao 1 cs, .int .i64 0]) ∧ OutS W.heap.size (SB5, [flP SF2 true]) a1 c1 a2 c2 ao cs w' ∧ Below W.heap.size W w') := fun W a1 c1 a2 c2 h hs hc => by
    have := come_any SB4 a1 a2 c1 c2 W hs hc (hm.below h)
    rw [sb_5.1, sb_5.2] at this
    exact this
  have CK : Hid (∀ W a1 c1 a2 c2, Below w.heap.size w W → SeIn W SB2 a1 a2 → 2 ≤ c1 → Calls Tryd.prog 16 #[.agg #[.string ⟨#[97, 110, 110]⟩, .bool true, .bool false, .slice a1 2 c1, .slice a2 0 c2, .int .i64 2]] W fun e w' => e = .returned (.int .i64 0) ∧ Below W.heap.size W w') := fun W a1 c1 a2 c2 h hs hc => by
    have := scheck_any SB2 a1 a2 c1 c2 W hs hc (hm.below h)
    rw [sb_3.1] at this
    exact this
  clear hm
  go_enter Tryd.func15, Tryd.ntmps15
  go_wp2_with fail
  refine (sess_any _).mono ?_
  rintro e w1 ⟨rfl, hb1⟩
  have HB1 := hide hb1
  clear hb1
  go_wp2_with fail
  refine (C1.out _ HB1.out).mono ?_
  rintro e w1x ⟨a1, c1, d1, e1, p1, n1, rfl, ho, hb⟩
  have VX := hide (below_step HB1.out hb)
  have HO1 := hide ho
  clear ho hb HB1 C1
  go_upto_region 2 with fail
  have hal : Below w1x.heap.size w1x (w1x.alloc (.cells #[.string ⟨#[97, 110, 110]⟩, .bool true, .bool false, .slice a1 1 c1, .slice d1 0 e1, .int .i64 1] 24)) := (Below.refl _ w1x).alloc (Nat.le_refl _) _
  have D1 : Hid (SAt w1x.heap.size SB1 (.slice a1 1 c1) (.slice d1 0 e1) (w1x.alloc (.cells #[.string ⟨#[97, 110, 110]⟩, .bool true, .bool false, .slice a1 1 c1, .slice d1 0 e1, .int .i64 1] 24))) := sat_new SB1 _ _ w1x
  have V1 : Hid (Below w.heap.size w (w1x.alloc (.cells #[.string ⟨#[97, 110, 110]⟩, .bool true, .bool false, .slice a1 1 c1, .slice d1 0 e1, .int .i64 1] 24))) := below_step VX.out hal
  have HO1 := hide (HO1.out.below hal)
  clear hal VX
  revert D1 V1 HO1
  generalize w1x.alloc (.cells #[.string ⟨#[97, 110, 110]⟩, .bool true, .bool false, .slice a1 1 c1, .slice d1 0 e1, .int .i64 1] 24) = W1
  generalize w1x.heap.size = b1 at *
  intro D1 V1 HO1
  have x1 : ∀ o, W1.cell? ⟨b1, o, none⟩ = (#[.string ⟨#[97, 110, 110]⟩, .bool true, .bool false, .slice a1 1 c1, .slice d1 0 e1, .int .i64 1] : Array Value)[o]? := D1.out.cell
  go_wp2_with fail
  refine (C2.out _ _ _ _ _ V1.out HO1.out.inn HO1.out.cf).mono ?_
  rintro e w2x ⟨a2, c2, d2, e2, p2, n2, rfl, ho, hb⟩
  have VX := hide (below_step V1.out hb)
  have HO1 := hide (HO1.out.below hb)
  have D1 := hide (D1.out.after hb)
  have HO2 := hide ho
  clear ho hb x1 V1 C2
  go_upto_region 3 with fail
  have hal : Below w2x.heap.size w2x (w2x.alloc (.cells #[.string ⟨#[97, 110, 110]⟩, .bool true, .bool false, .slice a2 2 c2, .slice d2 0 e2, .int .i64 2] 24)) := (Below.refl _ w2x).alloc (Nat.le_refl _) _
  have D2 : Hid (SAt w2x.heap.size SB2 (.slice a2 2 c2) (.slice d2 0 e2) (w2x.alloc (.cells #[.string ⟨#[97, 110, 110]⟩, .bool true, .bool false, .slice a2 2 c2, .slice d2 0 e2, .int .i64 2] 24))) := sat_new SB2 _ _ w2x
  have V2 : Hid (Below w.heap.size w (w2x.alloc (.cells #[.string ⟨#[97, 110, 110]⟩, .bool true, .bool false, .slice a2 2 c2, .slice d2 0 e2, .int .i64 2] 24))) := below_step VX.out hal
  have HO1 := hide (HO1.out.below hal)
  have D1 := hide (D1.out.after hal)
  have HO2 := hide (HO2.out.below hal)
  clear hal VX
  revert D2 V2 HO1 D1 HO2
  generalize w2x.alloc (.cells #[.string ⟨#[97, 110, 110]⟩, .bool true, .bool false, .slice a2 2 c2, .slice d2 0 e2, .int .i64 2] 24) = W2
  generalize w2x.heap.size = b2 at *
  intro D2 V2 HO1 D1 HO2
  have x1 : ∀ o, W2.cell? ⟨b2, o, none⟩ = (#[.string ⟨#[97, 110, 110]⟩, .bool true, .bool false, .slice a2 2 c2, .slice d2 0 e2, .int .i64 2] : Array Value)[o]? := D2.out.cell
  go_wp2_with fail
  refine (C3.out _ _ _ _ _ V2.out HO2.out.inn HO2.out.cf).mono ?_
  rintro e w3x ⟨a3, c3, d3, e3, p3, n3, rfl, ho, hb⟩
  have VX := hide (below_step V2.out hb)
  have HO1 := hide (HO1.out.below hb)
  have D1 := hide (D1.out.after hb)
  have HO2 := hide (HO2.out.below hb)
  have D2 := hide (D2.out.after hb)
  have HO3 := hide ho
  clear ho hb x1 V2 C3
  go_upto_region 4 with fail
  have hal : Below w3x.heap.size w3x (w3x.alloc (.cells #[.string ⟨#[97, 110, 110]⟩, .bool true, .bool false, .slice a3 1 c3, .slice d3 0 e3, .int .i64 2] 24)) := (Below.refl _ w3x).alloc (Nat.le_refl _) _
  have D3 : Hid (SAt w3x.heap.size SB3 (.slice a3 1 c3) (.slice d3 0 e3) (w3x.alloc (.cells #[.string ⟨#[97, 110, 110]⟩, .bool true, .bool false, .slice a3 1 c3, .slice d3 0 e3, .int .i64 2] 24))) := sat_new SB3 _ _ w3x
  have V3 : Hid (Below w.heap.size w (w3x.alloc (.cells #[.string ⟨#[97, 110, 110]⟩, .bool true, .bool false, .slice a3 1 c3, .slice d3 0 e3, .int .i64 2] 24))) := below_step VX.out hal
  have HO1 := hide (HO1.out.below hal)
  have D1 := hide (D1.out.after hal)
  have HO2 := hide (HO2.out.below hal)
  have D2 := hide (D2.out.after hal)
  have HO3 := hide (HO3.out.below hal)
  clear hal VX
  revert D3 V3 HO1 D1 HO2 D2 HO3
  generalize w3x.alloc (.cells #[.string ⟨#[97, 110, 110]⟩, .bool true, .bool false, .slice a3 1 c3, .slice d3 0 e3, .int .i64 2] 24) = W3
  generalize w3x.heap.size = b3 at *
  intro D3 V3 HO1 D1 HO2 D2 HO3
  have x1 : ∀ o, W3.cell? ⟨b3, o, none⟩ = (#[.string ⟨#[97, 110, 110]⟩, .bool true, .bool false, .slice a3 1 c3, .slice d3 0 e3, .int .i64 2] : Array Value)[o]? := D3.out.cell
  go_wp2_with fail
  refine (C4.out _ _ _ _ _ V3.out HO3.out.inn HO3.out.cf).mono ?_
  rintro e w4x ⟨a4, c4, d4, e4, rfl, ho, hb⟩
  have VX := hide (below_step V3.out hb)
  have HO1 := hide (HO1.out.below hb)
  have D1 := hide (D1.out.after hb)
  have HO2 := hide (HO2.out.below hb)
  have D2 := hide (D2.out.after hb)
  have HO3 := hide (HO3.out.below hb)
  have D3 := hide (D3.out.after hb)
  have HO4 := hide ho
  clear ho hb x1 V3 C4
  go_upto_region 5 with fail
  have hal : Below w4x.heap.size w4x (w4x.alloc (.cells #[.string ⟨#[97, 110, 110]⟩, .bool false, .bool false, .slice a4 1 c4, .slice d4 0 e4, .int .i64 2] 24)) := (Below.refl _ w4x).alloc (Nat.le_refl _) _
  have D4 : Hid (SAt w4x.heap.size SB4 (.slice a4 1 c4) (.slice d4 0 e4) (w4x.alloc (.cells #[.string ⟨#[97, 110, 110]⟩, .bool false, .bool false, .slice a4 1 c4, .slice d4 0 e4, .int .i64 2] 24))) := sat_new SB4 _ _ w4x
  have V4 : Hid (Below w.heap.size w (w4x.alloc (.cells #[.string ⟨#[97, 110, 110]⟩, .bool false, .bool false, .slice a4 1 c4, .slice d4 0 e4, .int .i64 2] 24))) := below_step VX.out hal
  have HO1 := hide (HO1.out.below hal)
  have D1 := hide (D1.out.after hal)
  have HO2 := hide (HO2.out.below hal)
  have D2 := hide (D2.out.after hal)
  have HO3 := hide (HO3.out.below hal)
  have D3 := hide (D3.out.after hal)
  have HO4 := hide (HO4.out.below hal)
  clear hal VX
  revert D4 V4 HO1 D1 HO2 D2 HO3 D3 HO4
  generalize w4x.alloc (.cells #[.string ⟨#[97, 110, 110]⟩, .bool false, .bool false, .slice a4 1 c4, .slice d4 0 e4, .int .i64 2] 24) = W4
  generalize w4x.heap.size = b4 at *
  intro D4 V4 HO1 D1 HO2 D2 HO3 D3 HO4
  have x1 : ∀ o, W4.cell? ⟨b4, o, none⟩ = (#[.string ⟨#[97, 110, 110]⟩, .bool false, .bool false, .slice a4 1 c4, .slice d4 0 e4, .int .i64 2] : Array Value)[o]? := D4.out.cell
  go_wp2_with fail
  refine (C5.out _ _ _ _ _ V4.out HO4.out.inn HO4.out.cf).mono ?_
  rintro e w5x ⟨a5, c5, d5, e5, p5, n5, rfl, ho, hb⟩
  have VX := hide (below_step V4.out hb)
  have HO1 := hide (HO1.out.below hb)
  have D1 := hide (D1.out.after hb)
  have HO2 := hide (HO2.out.below hb)
  have D2 := hide (D2.out.after hb)
  have HO3 := hide (HO3.out.below hb)
  have D3 := hide (D3.out.after hb)
  have HO4 := hide (HO4.out.below hb)
  have D4 := hide (D4.out.after hb)
  have HO5 := hide ho
  clear ho hb x1 V4 C5
  obtain ⟨g1, rfl, m1, _, q1⟩ := one_sent HO1.out
  obtain ⟨g2, rfl, m2, _, q2⟩ := one_sent HO2.out
  obtain ⟨g5, rfl, m5, q5, _⟩ := one_sent HO5.out
  simp only [flP, SF1, SF2] at q1 q2 q5
  have y2 : ∀ o, w5x.cell? ⟨b2, o, none⟩ = (#[.string ⟨#[97, 110, 110]⟩, .bool true, .bool false, .slice a2 2 c2, .slice d2 0 e2, .int .i64 2] : Array Value)[o]? := D2.out.cell
  have y3 : ∀ o, w5x.cell? ⟨b3, o, none⟩ = (#[.string ⟨#[97, 110, 110]⟩, .bool true, .bool false, .slice a3 1 c3, .slice d3 0 e3, .int .i64 2] : Array Value)[o]? := D3.out.cell
  have hl2 := D2.out.lt
  have hl3 := D3.out.lt
  have hs5 := VX.out.size
  have hal : Below w5x.heap.size w5x (w5x.alloc (.cells #[.string ⟨#[97, 110, 110]⟩, .bool true, .bool false, .slice a5 1 c5, .slice d5 0 e5, .int .i64 2] 24)) := (Below.refl _ w5x).alloc (Nat.le_refl _) _
  have VY := hide (below_step VX.out hal)
  have CK1 := hide (CK.out (w5x.alloc (.cells #[.string ⟨#[97, 110, 110]⟩, .bool true, .bool false, .slice a5 1 c5, .slice d5 0 e5, .int .i64 2] 24)) a2 c2 d2 e2 VY.out (HO2.out.below hal).inn HO2.out.cf)
  have hb1 := World.block_lt_of_cell? _ _ q1
  have hb2 := World.block_lt_of_cell? _ _ q2
  have hb5 := World.block_lt_of_cell? _ _ q5
  clear hal VX CK HO1 HO2 HO3 HO4 HO5 D1 D2 D3 D4
  go_wp2_with fail
  refine CK1.out.mono ?_
  rintro e w6 ⟨rfl, hb⟩
  have z3 : ∀ o, w6.cell? ⟨b3, o, none⟩ = (#[.string ⟨#[97, 110, 110]⟩, .bool true, .bool false, .slice a3 1 c3, .slice d3 0 e3, .int .i64 2] : Array Value)[o]? := fun o => (hb.cell (p := ⟨b3, o, none⟩) (by show b3 < _; simp; omega)).trans ((World.cell?_alloc_old w5x _ ⟨b3, o, none⟩ (by show b3 ≠ _; omega)).trans (y3 o))
  have z1 : w6.cell? ⟨g1, 6, none⟩ = some (.int .i64 65535) := (hb.cell (p := ⟨g1, 6, none⟩) (by show g1 < _; simp; omega)).trans ((World.cell?_alloc_old w5x _ ⟨g1, 6, none⟩ (by show g1 ≠ _; omega)).trans q1)
  have z2 : w6.cell? ⟨g2, 6, none⟩ = some (.int .i64 1) := (hb.cell (p := ⟨g2, 6, none⟩) (by show g2 < _; simp; omega)).trans ((World.cell?_alloc_old w5x _ ⟨g2, 6, none⟩ (by show g2 ≠ _; omega)).trans q2)
  have z5 : w6.cell? ⟨g5, 1, none⟩ = some (.bool true) := (hb.cell (p := ⟨g5, 1, none⟩) (by show g5 < _; simp; omega)).trans ((World.cell?_alloc_old w5x _ ⟨g5, 1, none⟩ (by show g5 ≠ _; omega)).trans q5)
  have zx : w6.cell? ⟨w5x.heap.size, 1, none⟩ = some (.bool true) := (hb.cell (p := ⟨w5x.heap.size, 1, none⟩) (by simp)).trans (by simp)
  have VZ := hide (below_step VY.out hb)
  clear hb VY CK1 y2 y3 q1 q2 q5
  go_wp2
  go_ret
  exact ⟨rfl, VZ.out⟩
end Go.Proofs.YtnhcecgmcmcioaaDoor
