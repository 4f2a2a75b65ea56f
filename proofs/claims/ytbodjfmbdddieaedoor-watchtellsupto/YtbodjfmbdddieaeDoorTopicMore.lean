/-
  topic.takesIn, spelled, Match and Covers: what they answer.
-/
import Derived.Test.YtbodjfmbdddieaeDoorTopicCheck
namespace Go.Proofs.YtbodjfmbdddieaeDoor
open Go.RowKit Go.PlainAid

set_option maxHeartbeats 2000000 in
set_option maxRecDepth 100000 in
theorem takesIn_any (F O : List ByteArray) (b1 b2 : Nat) (w : World) (hF : Hid (∀ k (h : k < F.length), w.cell? ⟨b1, k, none⟩ = some (.string F[k]))) (hO : Hid (∀ k (h : k < O.length), w.cell? ⟨b2, k, none⟩ = some (.string O[k])))
    (hf : (F.length : Int) ≤ 1000000) (_ho : (O.length : Int) ≤ 1000000) :
    Calls Tryd.prog 49 #[.slice (some ⟨b1, 0, none⟩) F.length F.length, .slice (some ⟨b2, 0, none⟩) O.length O.length] w fun e w' => e = .returned (.bool (takes F O)) ∧ w' = w := by
  generalize hR : takes F O = R
  have HR : Hid (takes F O = R) := hR
  clear hR
  go_enter Tryd.func49, Tryd.ntmps49
  go_wp2
  go_loop [9, 5, 6] (fun i _ _ => ∃ k : Nat, k ≤ F.length ∧ k ≤ O.length ∧ i = .int .i64 k ∧ Hid (takes (F.drop k) (O.drop k) = R)) (fun i _ _ => F.length - (intOf i).toNat)
  case atStart => exact ⟨0, Nat.zero_le _, Nat.zero_le _, rfl, HR⟩
  case round =>
    obtain ⟨k, hk, hk2, rfl, HP⟩ := hrel
    by_cases hlt : k < F.length
    · have cf := hF.out k hlt
      have HD := hide (takes_at hlt HP.out)
      generalize F[k] = x at *
      by_cases hx : x = ⟨#[35]⟩
      · have e1 : (x.toList == [35]) = true := txt_yes hx
        have HE := hide (HD.out.trans (if_pos hx))
        clear hx
        go_wp2
        go_ret
        exact ⟨by rw [HE.out]; rfl, rfl⟩
      · have e1 : (x.toList == [35]) = false := txt_no hx
        have HD2 := hide (HD.out.trans (if_neg hx))
        by_cases hko : k < O.length
        · have co := hO.out k hko
          have e2 : ((k : Int) == (O.length : Int)) = false := by simp; omega
          have HD3 := hide (HD2.out.trans (takes_other hko))
          generalize O[k] = y at *
          by_cases hy : y = ⟨#[35]⟩
          · have e3 : (y.toList == [35]) = true := txt_yes hy
            have HE := hide (HD3.out.trans (if_pos hy))
            clear hx hy
            go_wp2
            go_ret
            exact ⟨by rw [HE.out]; rfl, rfl⟩
          · have e3 : (y.toList == [35]) = false := txt_no hy
            have HD4 := hide (HD3.out.trans (if_neg hy))
            by_cases hp : x = ⟨#[43]⟩
            · have e4 : (x.toList == [43]) = true := txt_yes hp
              have e5 : (x.toList != [43]) = false := by simp [bne, e4]
              have HE := hide (HD4.out.trans (if_neg (fun h => h.1 hp))).symm
              clear hx hy hp
              go_wp2
              go_round
              case rel => exact ⟨k + 1, by omega, by omega, by go_num, HE⟩
              case measure => simp [intOf]; omega
            · have e4 : (x.toList == [43]) = false := txt_no hp
              have e5 : (x.toList != [43]) = true := by simp [bne, e4]
              by_cases hxy : x = y
              · have e6 : (x.toList == y.toList) = true := by rw [txt_eq]; simp [hxy]
                have e7 : (x.toList != y.toList) = false := by simp [bne, e6]
                have HE := hide (HD4.out.trans (if_neg (fun h => h.2 hxy))).symm
                clear hx hy hp hxy
                go_wp2
                go_round
                case rel => exact ⟨k + 1, by omega, by omega, by go_num, HE⟩
                case measure => simp [intOf]; omega
              · have e6 : (x.toList == y.toList) = false := by rw [txt_eq]; simp [hxy]
                have e7 : (x.toList != y.toList) = true := by simp [bne, e6]
                have HE := hide (HD4.out.trans (if_pos ⟨hp, hxy⟩))
                clear hx hy hp hxy
                go_wp2
                go_ret
                exact ⟨by rw [HE.out]; rfl, rfl⟩
        · have e2 : ((k : Int) == (O.length : Int)) = true := by simp; omega
          have HE := hide (HD2.out.trans (takes_out (by omega)))
          clear hx
          go_wp2
          go_ret
          exact ⟨by rw [HE.out]; rfl, rfl⟩
    · have HE := hide (takes_end (show k = F.length by omega) hk2 HP.out)
      go_wp2
      go_ret
      exact ⟨by rw [HE.out]; rfl, rfl⟩

/-- a filter for the same topics, in which a last # is also for none -/
def spell (s : ByteArray) : ByteArray := if s = ⟨#[35]⟩ then ⟨#[43, 47, 35]⟩ else if s = ⟨#[47, 35]⟩ then ⟨#[47, 43, 47, 35]⟩ else s

theorem spelled_any (s : ByteArray) (w : World) :
    Calls Tryd.prog 51 #[.string s] w fun e w' => e = .returned (.string (spell s)) ∧ w' = w := by
  by_cases h1 : s = ⟨#[35]⟩
  · subst h1
    go_enter Tryd.func51, Tryd.ntmps51
    go_wp2
    go_ret
    exact ⟨rfl, rfl⟩
  · by_cases h2 : s = ⟨#[47, 35]⟩
    · subst h2
      go_enter Tryd.func51, Tryd.ntmps51
      go_wp2
      go_ret
      exact ⟨rfl, rfl⟩
    · have e1 : (s.toList == [35]) = false := txt_no h1
      have e2 : (s.toList == [47, 35]) = false := txt_no h2
      have HR : Hid (spell s = s) := by rw [Hid, spell, if_neg h1, if_neg h2]
      clear h1 h2
      go_enter Tryd.func51, Tryd.ntmps51
      go_wp2
      go_ret
      exact ⟨by rw [HR.out]; rfl, rfl⟩

theorem spell_size (s : ByteArray) (h : s.size ≤ 60) : (spell s).size ≤ 60 := by
  unfold spell; split
  · decide
  · split
    · decide
    · exact h

/-- what Match answers -/
def matchB (a b : ByteArray) : Bool := decide (chk filtF a = 0) && decide (chk nameF b = 0) && takes (LV a) (LV b)
def matchE (a b : ByteArray) : Int := if chk filtF a = 0 then chk nameF b else chk filtF a
/-- what Covers answers -/
def covB (a b : ByteArray) : Bool := decide (chk filtF a = 0) && decide (chk filtF b = 0) && takes (LV a) (LV (spell b))
def covE (a b : ByteArray) : Int := if chk filtF a = 0 then chk filtF b else chk filtF a

theorem chk_ok {p : ByteArray → Bool → Bool} {s : ByteArray} (h : chk p s = 0) : s.size ≤ 60 ∧ 0 < s.size ∧ (LV s).length ≤ 6 ∧ okTo p (LV s) (LV s).length (LV s).length = true := by
  unfold chk at h
  by_cases h0 : s.size = 0
  · rw [if_pos h0] at h; omega
  · rw [if_neg h0] at h
    by_cases h1 : 60 < s.size
    · rw [if_pos h1] at h; omega
    · rw [if_neg h1] at h
      by_cases h2 : 6 < (LV s).length
      · rw [if_pos h2] at h; omega
      · rw [if_neg h2] at h
        by_cases h3 : okTo p (LV s) (LV s).length (LV s).length = true
        · exact ⟨by omega, by omega, by omega, h3⟩
        · rw [if_neg h3] at h; omega

/-- the cell that the library's search reads: some number -/
def Max (w : World) : Prop := 0 < w.heap.size ∧ ∃ m, w.cell? ⟨0, 0, none⟩ = some (.int .i64 m)
theorem Max.below {w w' : World} (h : Max w) (hb : Below w.heap.size w w') : Max w' := by
  obtain ⟨h0, m, hm⟩ := h
  exact ⟨Nat.lt_of_lt_of_le h0 hb.size, m, by rw [hb.cell (by exact h0)]; exact hm⟩
theorem Max.alloc {w : World} (h : Max w) (o : Obj) : Max (w.alloc o) := h.below ((Below.refl _ w).alloc (Nat.le_refl _) o)

theorem cells_first (w : World) (L K : List ByteArray) (t : TypeId) : ∀ k (h : k < L.length), ((w.alloc (.cells (L.map Value.string).toArray t)).alloc (.cells (K.map Value.string).toArray t)).cell? ⟨w.heap.size, k, none⟩ = some (.string L[k]) := by
  intro k h
  rw [World.cell?_alloc_past _ _ _ (by simp), World.cell?_alloc_at _ _ _ _ rfl]
  simp [List.getElem?_eq_getElem h]
theorem cells_second (w : World) (L K : List ByteArray) (t : TypeId) : ∀ k (h : k < K.length), ((w.alloc (.cells (L.map Value.string).toArray t)).alloc (.cells (K.map Value.string).toArray t)).cell? ⟨w.heap.size + 1, k, none⟩ = some (.string K[k]) := by
  intro k h
  rw [World.cell?_alloc_at _ _ _ _ (by simp)]
  simp [List.getElem?_eq_getElem h]

theorem LV_len60 (s : ByteArray) (h : s.size ≤ 60) : (LV s).length ≤ 61 := by
  have := LV_length s
  have h2 := Lib.countB_le ⟨#[47]⟩ (by decide) s.size s (Nat.le_refl _)
  omega

set_option maxHeartbeats 1000000 in
theorem match_any (a b : ByteArray) (w : World) (hm : Max w) :
    Calls Tryd.prog 10 #[.string a, .string b] w fun e w' => e = .returned (.tuple #[.bool (matchB a b), .int .i64 (matchE a b)]) ∧ Below w.heap.size w w' := by
  go_enter Tryd.func10, Tryd.ntmps10
  go_wp2_with fail
  obtain ⟨m, hm0⟩ := hm.2
  refine (filter_any a m _ hm0).mono ?_
  rintro e w1 ⟨rfl, hb1⟩
  have HM1 := hide (hm.below hb1)
  by_cases ha : chk filtF a = 0
  · have ha1 : (chk filtF a != 0) = false := by simp [ha]
    have HA := hide ha
    clear ha
    go_wp2_with fail
    obtain ⟨m1, hm1⟩ := HM1.out.2
    refine (name_any b m1 _ hm1).mono ?_
    rintro e w2 ⟨rfl, hb2⟩
    have HM2 := hide (HM1.out.below hb2)
    by_cases hb : chk nameF b = 0
    · have hb1' : (chk nameF b != 0) = false := by simp [hb]
      have HB := hide hb
      have HS := hide (chk_ok HA.out)
      have HT := hide (chk_ok hb)
      clear hb
      go_wp2_with fail
      obtain ⟨m2, hm2⟩ := HM2.out.2
      refine (levels_any a m2 _ (by have := HS.out.1; omega) hm2).mono ?_
      rintro e w3 ⟨rfl, rfl⟩
      go_wp2_with fail
      obtain ⟨m3, hm3⟩ := (HM2.out.alloc (.cells ((LV a).map Value.string).toArray 9)).2
      refine (levels_any b m3 _ (by have := HT.out.1; omega) hm3).mono ?_
      rintro e w3 ⟨rfl, rfl⟩
      go_wp2_with fail
      refine (takesIn_any (LV a) (LV b) _ _ _ (cells_first w2 (LV a) (LV b) _) (cells_second w2 (LV a) (LV b) _) (by have := HS.out.2.2.1; omega) (by have := HT.out.2.2.1; omega)).mono ?_
      rintro e w4 ⟨rfl, rfl⟩
      go_wp2_with fail
      go_ret2
      exact ⟨by simp [matchB, matchE, HA.out, HB.out], (below_step hb1 hb2).trans (((Below.refl _ _).alloc (by have h1 := hb1.size; have h2 := hb2.size; omega) _).alloc (by have h1 := hb1.size; have h2 := hb2.size; simp; omega) _)⟩
    · have hb1' : (chk nameF b != 0) = true := by simp [hb]
      have HB := hide hb
      clear hb
      go_wp2_with fail
      go_ret2
      exact ⟨by simp [matchB, matchE, HA.out, HB.out], below_step hb1 hb2⟩
  · have ha1 : (chk filtF a != 0) = true := by simp [ha]
    have HA := hide ha
    clear ha
    go_wp2_with fail
    go_ret2
    exact ⟨by simp [matchB, matchE, HA.out], hb1⟩
end Go.Proofs.YtbodjfmbdddieaeDoor
/-
  topic.Covers: what it answers; dragomanlaw.topicBegun answers true.
-/
namespace Go.Proofs.YtbodjfmbdddieaeDoor
open Go.RowKit Go.PlainAid

set_option maxHeartbeats 1000000 in
theorem covers_any (a b : ByteArray) (w : World) (hm : Max w) :
    Calls Tryd.prog 11 #[.string a, .string b] w fun e w' => e = .returned (.tuple #[.bool (covB a b), .int .i64 (covE a b)]) ∧ Below w.heap.size w w' := by
  go_enter Tryd.func11, Tryd.ntmps11
  go_wp2_with fail
  obtain ⟨m, hm0⟩ := hm.2
  refine (filter_any a m _ hm0).mono ?_
  rintro e w1 ⟨rfl, hb1⟩
  have HM1 := hide (hm.below hb1)
  by_cases ha : chk filtF a = 0
  · have ha1 : (chk filtF a != 0) = false := by simp [ha]
    have HA := hide ha
    clear ha
    go_wp2_with fail
    obtain ⟨m1, hm1⟩ := HM1.out.2
    refine (filter_any b m1 _ hm1).mono ?_
    rintro e w2 ⟨rfl, hb2⟩
    have HM2 := hide (HM1.out.below hb2)
    by_cases hb : chk filtF b = 0
    · have hb1' : (chk filtF b != 0) = false := by simp [hb]
      have HB := hide hb
      have HS := hide (chk_ok HA.out)
      have HT := hide (spell_size b (chk_ok hb).1)
      have HU := hide (LV_len60 _ HT.out)
      clear hb
      go_wp2_with fail
      obtain ⟨m2, hm2⟩ := HM2.out.2
      refine (levels_any a m2 _ (by have := HS.out.1; omega) hm2).mono ?_
      rintro e w3 ⟨rfl, rfl⟩
      go_wp2_with fail
      refine (spelled_any b _).mono ?_
      rintro e w3 ⟨rfl, rfl⟩
      go_wp2_with fail
      obtain ⟨m3, hm3⟩ := (HM2.out.alloc (.cells ((LV a).map Value.string).toArray 9)).2
      refine (levels_any (spell b) m3 _ (by have := HT.out; omega) hm3).mono ?_
      rintro e w3 ⟨rfl, rfl⟩
      go_wp2_with fail
      refine (takesIn_any (LV a) (LV (spell b)) _ _ _ (cells_first w2 (LV a) (LV (spell b)) _) (cells_second w2 (LV a) (LV (spell b)) _) (by have := HS.out.2.2.1; omega) (by have := HU.out; omega)).mono ?_
      rintro e w4 ⟨rfl, rfl⟩
      go_wp2_with fail
      go_ret2
      exact ⟨by simp [covB, covE, HA.out, HB.out], (below_step hb1 hb2).trans (((Below.refl _ _).alloc (by have h1 := hb1.size; have h2 := hb2.size; omega) _).alloc (by have h1 := hb1.size; have h2 := hb2.size; simp; omega) _)⟩
    · have hb1' : (chk filtF b != 0) = true := by simp [hb]
      have HB := hide hb
      clear hb
      go_wp2_with fail
      go_ret2
      exact ⟨by simp [covB, covE, HA.out, HB.out], below_step hb1 hb2⟩
  · have ha1 : (chk filtF a != 0) = true := by simp [ha]
    have HA := hide ha
    clear ha
    go_wp2_with fail
    go_ret2
    exact ⟨by simp [covB, covE, HA.out], hb1⟩

theorem name_max (s : ByteArray) (w : World) (hm : Max w) :
    Calls Tryd.prog 44 #[.string s] w fun e w' => e = .returned (.int .i64 (chk nameF s)) ∧ Below w.heap.size w w' := by
  obtain ⟨m, h⟩ := hm.2; exact name_any s m w h
theorem filter_max (s : ByteArray) (w : World) (hm : Max w) :
    Calls Tryd.prog 45 #[.string s] w fun e w' => e = .returned (.int .i64 (chk filtF s)) ∧ Below w.heap.size w w' := by
  obtain ⟨m, h⟩ := hm.2; exact filter_any s m w h

theorem b_m1 (w : World) (hm : Max w) : Calls Tryd.prog 10 #[.string ⟨#[97, 47, 43, 47, 35]⟩, .string ⟨#[97, 47, 98]⟩] w fun e w' => e = .returned (.tuple #[.bool true, .int .i64 0]) ∧ Below w.heap.size w w' := by
  have := match_any ⟨#[97, 47, 43, 47, 35]⟩ ⟨#[97, 47, 98]⟩ w hm
  rwa [show matchB ⟨#[97, 47, 43, 47, 35]⟩ ⟨#[97, 47, 98]⟩ = true by decide +kernel, show matchE ⟨#[97, 47, 43, 47, 35]⟩ ⟨#[97, 47, 98]⟩ = 0 by decide +kernel] at this
theorem b_m2 (w : World) (hm : Max w) : Calls Tryd.prog 10 #[.string ⟨#[97, 47, 43]⟩, .string ⟨#[97, 47, 98, 47, 99]⟩] w fun e w' => e = .returned (.tuple #[.bool false, .int .i64 0]) ∧ Below w.heap.size w w' := by
  have := match_any ⟨#[97, 47, 43]⟩ ⟨#[97, 47, 98, 47, 99]⟩ w hm
  rwa [show matchB ⟨#[97, 47, 43]⟩ ⟨#[97, 47, 98, 47, 99]⟩ = false by decide +kernel, show matchE ⟨#[97, 47, 43]⟩ ⟨#[97, 47, 98, 47, 99]⟩ = 0 by decide +kernel] at this
theorem b_c1 (w : World) (hm : Max w) : Calls Tryd.prog 11 #[.string ⟨#[35]⟩, .string ⟨#[97, 47, 43]⟩] w fun e w' => e = .returned (.tuple #[.bool true, .int .i64 0]) ∧ Below w.heap.size w w' := by
  have := covers_any ⟨#[35]⟩ ⟨#[97, 47, 43]⟩ w hm
  rwa [show covB ⟨#[35]⟩ ⟨#[97, 47, 43]⟩ = true by decide +kernel, show covE ⟨#[35]⟩ ⟨#[97, 47, 43]⟩ = 0 by decide +kernel] at this
theorem b_c2 (w : World) (hm : Max w) : Calls Tryd.prog 11 #[.string ⟨#[97, 47, 43]⟩, .string ⟨#[97, 47, 35]⟩] w fun e w' => e = .returned (.tuple #[.bool false, .int .i64 0]) ∧ Below w.heap.size w w' := by
  have := covers_any ⟨#[97, 47, 43]⟩ ⟨#[97, 47, 35]⟩ w hm
  rwa [show covB ⟨#[97, 47, 43]⟩ ⟨#[97, 47, 35]⟩ = false by decide +kernel, show covE ⟨#[97, 47, 43]⟩ ⟨#[97, 47, 35]⟩ = 0 by decide +kernel] at this
theorem b_n1 (w : World) (hm : Max w) : Calls Tryd.prog 44 #[.string ⟨#[97, 47, 98]⟩] w fun e w' => e = .returned (.int .i64 0) ∧ Below w.heap.size w w' := by
  have := name_max ⟨#[97, 47, 98]⟩ w hm
  rwa [show chk nameF ⟨#[97, 47, 98]⟩ = 0 by decide +kernel] at this
theorem b_f1 (w : World) (hm : Max w) : Calls Tryd.prog 45 #[.string ⟨#[97, 47, 43, 47, 35]⟩] w fun e w' => e = .returned (.int .i64 0) ∧ Below w.heap.size w w' := by
  have := filter_max ⟨#[97, 47, 43, 47, 35]⟩ w hm
  rwa [show chk filtF ⟨#[97, 47, 43, 47, 35]⟩ = 0 by decide +kernel] at this
theorem b_n2 (w : World) (hm : Max w) : Calls Tryd.prog 44 #[.string ⟨#[97, 47, 43]⟩] w fun e w' => e = .returned (.int .i64 1) ∧ Below w.heap.size w w' := by
  have := name_max ⟨#[97, 47, 43]⟩ w hm
  rwa [show chk nameF ⟨#[97, 47, 43]⟩ = 1 by decide +kernel] at this

set_option maxHeartbeats 1000000 in
theorem topicBegun_yes (w : World) (hm : Max w) : Calls Tryd.prog 8 #[] w fun e w' => e = .returned (.bool true) ∧ Below w.heap.size w w' := by
  go_enter Tryd.func8, Tryd.ntmps8
  go_wp2_with fail
  refine (b_m1 _ hm).mono ?_
  rintro e w1 ⟨rfl, hb1⟩
  have HM1 := hide (hm.below hb1)
  go_wp2_with fail
  refine (b_m2 _ HM1.out).mono ?_
  rintro e w2 ⟨rfl, hb2⟩
  have HM2 := hide (HM1.out.below hb2)
  go_wp2_with fail
  refine (b_c1 _ HM2.out).mono ?_
  rintro e w3 ⟨rfl, hb3⟩
  have HM3 := hide (HM2.out.below hb3)
  go_wp2_with fail
  refine (b_c2 _ HM3.out).mono ?_
  rintro e w4 ⟨rfl, hb4⟩
  have HM4 := hide (HM3.out.below hb4)
  go_wp2_with fail
  refine (b_n1 _ HM4.out).mono ?_
  rintro e w5 ⟨rfl, hb5⟩
  have HM5 := hide (HM4.out.below hb5)
  go_wp2_with fail
  refine (b_f1 _ HM5.out).mono ?_
  rintro e w6 ⟨rfl, hb6⟩
  have HM6 := hide (HM5.out.below hb6)
  go_wp2_with fail
  refine (b_n2 _ HM6.out).mono ?_
  rintro e w7 ⟨rfl, hb7⟩
  go_wp2
  go_ret
  exact ⟨rfl, below_step (below_step (below_step (below_step (below_step (below_step hb1 hb2) hb3) hb4) hb5) hb6) hb7⟩
end Go.Proofs.YtbodjfmbdddieaeDoor
