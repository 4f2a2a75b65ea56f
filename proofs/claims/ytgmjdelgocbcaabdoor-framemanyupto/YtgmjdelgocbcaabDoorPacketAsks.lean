/-
  packet.checkAsks: what it answers.
-/
import Derived.Test.YtgmjdelgocbcaabDoorPacketChecksAll
namespace Go.Proofs.YtgmjdelgocbcaabDoor
open Go.RowKit Go.PlainAid

set_option maxHeartbeats 1000000 in
theorem checkAsks_any (p : Pk) (aa ac : Option Addr) (ca cc : Nat) (w : World) (hm : Max w) (hl : AsksIn w aa p.asks) :
    Calls Tryd.prog 65 #[pkV p aa ca ac cc] w fun e w' => e = .returned (.int .i64 (asksE p)) ∧ Below w.heap.size w w' := by
  generalize hE : asksE p = E
  obtain ⟨k, d, r, c, s, q, i, kp, cd, cl, tp, pl, l, cs⟩ := p
  simp only [asksE] at hE
  simp only [pkV]
  have hm := hide hm
  by_cases h0 : countE l.length = 0
  · rw [if_neg (by simp [h0])] at hE
    have hc : 0 < l.length ∧ l.length ≤ 5 := by
      unfold countE at h0
      split at h0
      · omega
      · split at h0 <;> omega
    obtain ⟨b, o, rfl, hb, hcell⟩ : ∃ b o, aa = some ⟨b, o, none⟩ ∧ b < w.heap.size ∧ ∀ i (h : i < l.length), w.cell? ⟨b, o + i * 2, none⟩ = some (.string l[i].1) ∧ w.cell? ⟨b, o + i * 2 + 1, none⟩ = some (.int .i64 l[i].2) := by
      rcases hl with rfl | h
      · simp at hc
      · exact h
    have HE := hide hE
    have H0 := hide h0
    have HC := hide hcell
    clear hE h0 hl hcell
    go_enter Tryd.func65, Tryd.ntmps65
    go_wp2_with (go_at_call 81; refine (checkCount_any _ _).mono ?_; rintro e w' ⟨rfl, rfl⟩; rw [H0.out])
    generalize hW : w.alloc _ = W
    have hWs : W.heap.size = w.heap.size + 1 := by rw [← hW]; simp
    have hWk : W.cell? ⟨w.heap.size, 0, none⟩ = some (.int .i64 k) := by rw [← hW]; simp
    have HW : Hid (Below w.heap.size w W) := by show Below _ _ _; rw [← hW]; exact (Below.refl _ _).alloc (Nat.le_refl _) _
    have HM := hide (hm.out.below HW.out)
    clear hW
    go_loopw [17] (fun i wr => ∃ n : Nat, n ≤ l.length ∧ i = .int .i64 n ∧ Hid (firstE (askE k) (l.take n) = 0) ∧ Below W.heap.size W wr) (fun i _ => l.length - (intOf i).toNat)
    case atStart => exact ⟨0, by omega, rfl, rfl, Below.refl _ _⟩
    case round =>
      obtain ⟨n, hn, rfl, HF, hB⟩ := hrel
      have HB := hide hB
      have hs := hB.size
      obtain ⟨hcc, hff⟩ := bcell hB
      have hkk : wr.cell? ⟨w.heap.size, 0, none⟩ = some (.int .i64 k) := by rw [hcc _ _ (by omega)]; exact hWk
      have HCC := hide hcc
      clear hB hcc hff
      by_cases hlt : n < l.length
      · have HT := hide (firstE_take (askE k) l n HF.out hlt E HE.out)
        have hk1 : wr.cell? ⟨b, o + n * 2, none⟩ = some (.string l[n].1) := by rw [HCC.out b _ (by omega), HW.out.cell (p := ⟨b, _, none⟩) hb]; exact (HC.out n hlt).1
        have hk2 : wr.cell? ⟨b, o + n * 2 + 1, none⟩ = some (.int .i64 l[n].2) := by rw [HCC.out b _ (by omega), HW.out.cell (p := ⟨b, _, none⟩) hb]; exact (HC.out n hlt).2
        generalize l[n] = x at *
        obtain ⟨f, y⟩ := x
        simp only at hk1 hk2
        by_cases h1 : chk filtF f = 0
        · have h1e : (chk filtF f != 0) = false := by simp [h1]
          have H1 := hide h1
          by_cases h2 : k = 10
          · by_cases h3 : y = 0
            · have HR := hide (HT.out.1 (by unfold askE; rw [if_neg (by simp [h1]), if_neg (by simp [h3]), if_neg (by simp [h3])]))
              have HQ : Hid (qosB y = true) := by show _ = _; simp [qosB, h3]
              have h2' : (k == 10) = true := by simp [h2]
              have h3' : (y != 0) = false := by simp [h3]
              clear h1 h2 h3
              go_wp2_with fail
              refine (filter_max f _ ((HM.out.below HB.out).alloc _)).mono ?_
              rintro e w1 ⟨rfl, hb1⟩
              have hd0 : w1.cell? ⟨w.heap.size, 0, none⟩ = some (.int .i64 k) := by rw [hb1.cell (p := ⟨w.heap.size, 0, none⟩) (by simp; omega), World.cell?_alloc_old _ _ _ (by show w.heap.size ≠ _; omega)]; exact hkk
              have hd1 : w1.cell? ⟨wr.heap.size, 1, none⟩ = some (.int .i64 y) := by rw [hb1.cell (p := ⟨wr.heap.size, 1, none⟩) (by simp)]; simp
              have HB1 := hide ((HB.out.alloc hs _).trans (hb1.mono (by simp; omega)))
              go_wp2_with (go_at_call 63; refine (isQos_any _ _).mono ?_; rintro e w' ⟨rfl, rfl⟩; rw [HQ.out])
              go_round
              case rel => exact ⟨n + 1, by omega, by go_num, HR, HB1.out⟩
              case measure => simp [intOf]; omega
            · have HR := hide (HT.out.2 (by unfold askE; rw [if_neg (by simp [h1]), if_pos ⟨h2, h3⟩]; decide))
              rw [show askE k (f, y) = 1 by unfold askE; rw [if_neg (by simp [h1]), if_pos ⟨h2, h3⟩]] at HR
              have h3' : (y != 0) = true := by simp [h3]
              have h2' : (k == 10) = true := by simp [h2]
              clear h1 h2 h3
              go_wp2_with fail
              refine (filter_max f _ ((HM.out.below HB.out).alloc _)).mono ?_
              rintro e w1 ⟨rfl, hb1⟩
              have hd0 : w1.cell? ⟨w.heap.size, 0, none⟩ = some (.int .i64 k) := by rw [hb1.cell (p := ⟨w.heap.size, 0, none⟩) (by simp; omega), World.cell?_alloc_old _ _ _ (by show w.heap.size ≠ _; omega)]; exact hkk
              have hd1 : w1.cell? ⟨wr.heap.size, 1, none⟩ = some (.int .i64 y) := by rw [hb1.cell (p := ⟨wr.heap.size, 1, none⟩) (by simp)]; simp
              have HB1 := hide ((HB.out.alloc hs _).trans (hb1.mono (by simp; omega)))
              go_wp2
              go_ret
              exact ⟨by rw [HR.out]; rfl, HW.out.trans (HB1.out.mono (by omega))⟩
          · have h2' : (k == 10) = false := by simp [h2]
            by_cases h3 : y = 0 ∨ y = 1
            · have HR := hide (HT.out.1 (by unfold askE; rw [if_neg (by simp [h1]), if_neg (by simp [h2]), if_neg (by simp [h3])]))
              have HQ : Hid (qosB y = true) := by show _ = _; simpa [qosB] using h3
              clear h1 h2 h3
              go_wp2_with fail
              refine (filter_max f _ ((HM.out.below HB.out).alloc _)).mono ?_
              rintro e w1 ⟨rfl, hb1⟩
              have hd0 : w1.cell? ⟨w.heap.size, 0, none⟩ = some (.int .i64 k) := by rw [hb1.cell (p := ⟨w.heap.size, 0, none⟩) (by simp; omega), World.cell?_alloc_old _ _ _ (by show w.heap.size ≠ _; omega)]; exact hkk
              have hd1 : w1.cell? ⟨wr.heap.size, 1, none⟩ = some (.int .i64 y) := by rw [hb1.cell (p := ⟨wr.heap.size, 1, none⟩) (by simp)]; simp
              have HB1 := hide ((HB.out.alloc hs _).trans (hb1.mono (by simp; omega)))
              go_wp2_with (go_at_call 63; refine (isQos_any _ _).mono ?_; rintro e w' ⟨rfl, rfl⟩; rw [HQ.out])
              go_round
              case rel => exact ⟨n + 1, by omega, by go_num, HR, HB1.out⟩
              case measure => simp [intOf]; omega
            · have HR := hide (HT.out.2 (by unfold askE; rw [if_neg (by simp [h1]), if_neg (by simp [h2]), if_pos h3]; decide))
              rw [show askE k (f, y) = 3 by unfold askE; rw [if_neg (by simp [h1]), if_neg (by simp [h2]), if_pos h3]] at HR
              have HQ : Hid (qosB y = false) := by show _ = _; simpa [qosB] using h3
              clear h1 h2 h3
              go_wp2_with fail
              refine (filter_max f _ ((HM.out.below HB.out).alloc _)).mono ?_
              rintro e w1 ⟨rfl, hb1⟩
              have hd0 : w1.cell? ⟨w.heap.size, 0, none⟩ = some (.int .i64 k) := by rw [hb1.cell (p := ⟨w.heap.size, 0, none⟩) (by simp; omega), World.cell?_alloc_old _ _ _ (by show w.heap.size ≠ _; omega)]; exact hkk
              have hd1 : w1.cell? ⟨wr.heap.size, 1, none⟩ = some (.int .i64 y) := by rw [hb1.cell (p := ⟨wr.heap.size, 1, none⟩) (by simp)]; simp
              have HB1 := hide ((HB.out.alloc hs _).trans (hb1.mono (by simp; omega)))
              go_wp2_with (go_at_call 63; refine (isQos_any _ _).mono ?_; rintro e w' ⟨rfl, rfl⟩; rw [HQ.out])
              go_ret
              exact ⟨by rw [HR.out]; rfl, HW.out.trans (HB1.out.mono (by omega))⟩
        · have h1e : (chk filtF f != 0) = true := by simp [h1]
          have HR := hide (HT.out.2 (by unfold askE; rw [if_pos h1]; exact h1))
          rw [show askE k (f, y) = chk filtF f by unfold askE; rw [if_pos h1]] at HR
          clear h1
          go_wp2_with fail
          refine (filter_max f _ ((HM.out.below HB.out).alloc _)).mono ?_
          rintro e w1 ⟨rfl, hb1⟩
          have hd0 : w1.cell? ⟨w.heap.size, 0, none⟩ = some (.int .i64 k) := by rw [hb1.cell (p := ⟨w.heap.size, 0, none⟩) (by simp; omega), World.cell?_alloc_old _ _ _ (by show w.heap.size ≠ _; omega)]; exact hkk
          have hd1 : w1.cell? ⟨wr.heap.size, 1, none⟩ = some (.int .i64 y) := by rw [hb1.cell (p := ⟨wr.heap.size, 1, none⟩) (by simp)]; simp
          have HB1 := hide ((HB.out.alloc hs _).trans (hb1.mono (by simp; omega)))
          go_wp2
          go_ret
          exact ⟨by rw [HR.out]; rfl, HW.out.trans (HB1.out.mono (by omega))⟩
      · have HR : Hid (E = 0) := by
          have h1 := HF.out
          rw [List.take_of_length_le (by omega)] at h1
          exact HE.out.symm.trans h1
        go_wp2
        go_ret
        exact ⟨by rw [HR.out]; rfl, HW.out.trans (HB.out.mono (by omega))⟩
  · rw [if_pos h0] at hE
    have h1 : (countE l.length != 0) = true := by simp [h0]
    have HE := hide hE.symm
    clear h0 hE
    go_enter Tryd.func65, Tryd.ntmps65
    go_wp2_with (go_at_call 81; refine (checkCount_any _ _).mono ?_; rintro e w' ⟨rfl, rfl⟩)
    go_ret
    exact ⟨by rw [HE.out]; rfl, (Below.refl _ _).alloc (Nat.le_refl _) _⟩
end Go.Proofs.YtgmjdelgocbcaabDoor
