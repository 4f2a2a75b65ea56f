/-
  dragomanref.IsFor and CoversOf: what they answer.
-/
import Derived.Test.YtcldjoklkbbbgadDoorTopicCheckWalk
import Derived.Test.YtcldjoklkbbbgadDoorTopicCoversMath
import Derived.Deep.QuietTactic
import Derived.BigQuiet
namespace Go.Proofs.YtcldjoklkbbbgadDoor
open Go.RowKit Go.PlainAid

/-- a list of texts lies in memory -/
def Lies (w : World) (g : Nat) (L : List ByteArray) : Prop := ∀ k (h : k < L.length), w.cell? ⟨g, k, none⟩ = some (.string L[k])
theorem Lies.drewN {w : World} {g : Nat} {L : List ByteArray} (h : Lies w g L) (n : Nat) : Lies (w.drewN n) g L := fun k hk => by have := h k hk; simpa using this
theorem Lies.below {w w' : World} {g : Nat} {L : List ByteArray} {B : Nat} (h : Lies w g L) (hb : Below B w w') (hg : g < B) : Lies w' g L := fun k hk => by rw [hb.cell (by exact hg)]; exact h k hk

theorem LV_len (s : ByteArray) : (LV s).length ≤ s.size + 1 := by
  have := LV_length s
  have h2 := Lib.countB_le ⟨#[47]⟩ (by decide) s.size s (Nat.le_refl _)
  omega
theorem Lies.lt {w : World} {g : Nat} {s : ByteArray} (h : Lies w g (LV s)) : g < w.heap.size :=
  World.block_lt_of_cell? w _ (h 0 (List.length_pos_iff.2 (LV_ne s)))

set_option maxHeartbeats 2000000 in
set_option maxRecDepth 100000 in
theorem isFor_any (a b : ByteArray) (w : World) (ha : a.size ≤ 1048576) (hb : b.size ≤ 1048576) (hn : ∀ x ∈ LV b, x ≠ ⟨#[35]⟩) :
    Calls Tryd.prog 31 #[.string a, .string b] w fun e w' => e = .returned (.bool (takes (LV a) (LV b))) ∧ Below w.heap.size w w' := by
  generalize hR : takes (LV a) (LV b) = R
  have HR := hide hR
  clear hR
  go_enter Tryd.func31, Tryd.ntmps31
  go_wp2_with fail
  refine (levelsOf_any a _ ha).mono ?_
  rintro e w1 ⟨g1, cap1, rfl, hcap1, hc1, hb1⟩
  go_wp2_with fail
  refine (levelsOf_any b _ hb).mono ?_
  rintro e w2 ⟨g2, cap2, rfl, hcap2, hc2, hb2⟩
  have hL1 : Lies w2 g1 (LV a) := Lies.below hc1 hb2 (Lies.lt hc1)
  have H1 := hide hL1
  have H2 : Hid (Lies w2 g2 (LV b)) := hc2
  have HBW := hide (below_step hb1 hb2)
  have hla := LV_len a
  have hlb := LV_len b
  have hla2 : ((LV a).length : Int) ≤ 1048577 := by omega
  have hlb2 : ((LV b).length : Int) ≤ 1048577 := by omega
  have HN := hide hn
  clear hc1 hc2 hL1 hb1 hb2 hla hlb hn ha hb
  generalize LV a = F at *
  generalize LV b = O at *
  go_wp2_with fail
  go_loopw [7] (fun i wr => ∃ k : Nat, k ≤ F.length ∧ k ≤ O.length ∧ i = .int .i64 k ∧ Hid (takes (F.drop k) (O.drop k) = R) ∧ Hid (Lies wr g1 F) ∧ Hid (Lies wr g2 O) ∧ Hid (Below w.heap.size w wr)) (fun i _ => F.length - (intOf i).toNat)
  case atStart => exact ⟨0, Nat.zero_le _, Nat.zero_le _, rfl, HR, H1, H2, HBW⟩
  case round =>
    clear H1 H2 HBW
    obtain ⟨k, hk, hk2, rfl, HP, H1, H2, HBW⟩ := hrel
    by_cases hlt : k < F.length
    · have cf := H1.out k hlt
      have HD := hide (takes_at hlt HP.out)
      generalize F[k] = x at *
      by_cases hx : x = ⟨#[35]⟩
      · have e1 : (x.toList == [35]) = true := txt_yes hx
        have HE := hide (HD.out.trans (if_pos hx))
        clear hx
        go_wp2
        go_ret
        exact ⟨by rw [HE.out]; rfl, HBW.out⟩
      · have e1 : (x.toList == [35]) = false := txt_no hx
        have HD2 := hide (HD.out.trans (if_neg hx))
        by_cases hko : k < O.length
        · have co := H2.out k hko
          have e2 : decide ((O.length : Int) ≤ (k : Int)) = false := by simp; omega
          have e2' : decide (O.length ≤ k) = false := by simp; omega
          have HD3 := hide (HD2.out.trans (takes_other hko))
          have hy := HN.out O[k] (List.getElem_mem _)
          generalize O[k] = y at *
          have HD4 := hide (HD3.out.trans (if_neg hy))
          clear hy
          have i1 : (k : Int) < (F.length : Int) := by omega
          have i2 : (k : Int) < (O.length : Int) := by omega
          have i3 : ¬ (O.length : Int) ≤ (k : Int) := by omega
          by_cases hp : x = ⟨#[43]⟩
          · have e4 : (x.toList == [43]) = true := txt_yes hp
            have e5 : (x.toList != [43]) = false := by simp [bne, e4]
            have HE := hide (HD4.out.trans (if_neg (fun h => h.1 hp))).symm
            clear hx hp
            go_wp2_with fail
            go_big_quiet (fail)
            go_wp2
            go_roundw
            case rel => exact ⟨k + 1, by omega, by omega, by go_num, HE, H1.out.drewN _, H2.out.drewN _, below_drewN HBW.out _⟩
            case measure => simp [intOf]; omega
          · have e4 : (x.toList == [43]) = false := txt_no hp
            have e5 : (x.toList != [43]) = true := by simp [bne, e4]
            by_cases hxy : x = y
            · have e6 : (x.toList == y.toList) = true := by rw [txt_eq]; simp [hxy]
              have e7 : (x.toList != y.toList) = false := by simp [bne, e6]
              have HE := hide (HD4.out.trans (if_neg (fun h => h.2 hxy))).symm
              clear hx hp hxy
              go_wp2_with fail
              go_big_quiet (fail)
              go_wp2
              go_roundw
              case rel => exact ⟨k + 1, by omega, by omega, by go_num, HE, H1.out.drewN _, H2.out.drewN _, below_drewN HBW.out _⟩
              case measure => simp [intOf]; omega
            · have e6 : (x.toList == y.toList) = false := by rw [txt_eq]; simp [hxy]
              have e7 : (x.toList != y.toList) = true := by simp [bne, e6]
              have HE := hide (HD4.out.trans (if_pos ⟨hp, hxy⟩))
              clear hx hp hxy
              go_wp2_with fail
              go_big_quiet (fail)
              go_wp2
              go_ret
              exact ⟨by rw [HE.out]; rfl, below_drewN HBW.out _⟩
        · have e2 : decide ((O.length : Int) ≤ (k : Int)) = true := by simp; omega
          have e2' : decide (O.length ≤ k) = true := by simp; omega
          have i3 : (O.length : Int) ≤ (k : Int) := by omega
          have HE := hide (HD2.out.trans (takes_out (by omega)))
          clear hx
          go_wp2_with fail
          go_big_quiet (fail)
          go_wp2
          go_ret
          exact ⟨by rw [HE.out]; rfl, below_drewN HBW.out _⟩
    · have HE := hide (takes_end (show k = F.length by omega) hk2 HP.out)
      go_wp2
      go_ret
      exact ⟨by rw [HE.out]; rfl, HBW.out⟩
end Go.Proofs.YtcldjoklkbbbgadDoor
