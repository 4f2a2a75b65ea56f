/-
  dragomanref.CoversOf: what it answers.
-/
import Derived.Test.YtaohmbjiljgibaaDoorTopicForRef
import Derived.Deep.DeepCutAuto
namespace Go.Proofs.YtaohmbjiljgibaaDoor
open Go.RowKit Go.PlainAid

theorem own_lies {wr : World} {B : Nat} {v : Value} {L : List ByteArray} (hp : L ≠ []) (hown : wr.ownsRow B 9 1 v L.length (L.map Value.string)) :
    ∃ g cap, v = .slice (some ⟨g, 0, none⟩) L.length cap ∧ Lies wr g L := by
  obtain ⟨g, cap, rfl, _, _⟩ := hown.form (List.length_pos_iff.2 hp)
  refine ⟨g, cap, rfl, fun k h => ?_⟩
  rw [hown.cellAt k (by omega)]
  simp [List.getElem?_eq_getElem h]

theorem own_above {wc w3 : World} {o : Obj} {B : Nat} {v : Value} {r : Option Nat} {g : Nat} {xs : List Value} (hown : w3.ownsRow B 9 1 v 1 xs) (_h : (wc.alloc o).grownBy w3 r) (hg : v.ownBlock = some g) : B ≤ g := (hown.lt g hg).1

theorem spell_le (s : ByteArray) : (spell s).size ≤ s.size + 2 := by
  unfold spell; split
  · rename_i h; subst h; decide
  · split
    · rename_i h; subst h; decide
    · omega

set_option maxHeartbeats 4000000 in
set_option maxRecDepth 100000 in
theorem coversOf_any (a b : ByteArray) (w : World) (ha : a.size ≤ 1048576) (hb : b.size ≤ 1048576) :
    Calls Tryd.prog 14 #[.string a, .string b] w fun e w' => e = .returned (.bool (takes (LV a) (LV (spell b)))) ∧ Below w.heap.size w w' := by
  obtain ⟨i0, hi, hz0, hz1, hz2⟩ := info_parts info_str
  generalize hR : takes (LV a) (LV (spell b)) = R
  have HR := hide hR
  clear hR
  go_enter Tryd.func14, Tryd.ntmps14
  go_wp2_with fail
  refine (levelsOf_any a _ ha).mono ?_
  rintro e w1 ⟨g1, cap1, rfl, hcap1, hc1, hb1⟩
  go_wp2_with fail
  refine (levelsOf_any b _ hb).mono ?_
  rintro e w2 ⟨g2, cap2, rfl, hcap2, hc2, hb2⟩
  have hL1 : Lies w2 g1 (LV a) := Lies.below hc1 hb2 (Lies.lt hc1)
  have H1 := hide hL1
  have H2 : Hid (Lies w2 g2 (LV b)) := hc2
  have HBW := hide (below_step hb1 hb2)
  have hla := LV_len a
  have hla2 : ((LV a).length : Int) ≤ 1048577 := by omega
  clear hc1 hc2 hL1 hb1 hb2 hla
  go_upto_region 2 with fail
  go_cut [17] (fun x wr => x = .bool (decide (b = ⟨#[35]⟩ ∨ b = ⟨#[47, 35]⟩)) ∧ wr = w2)
  case first =>
    by_cases h1 : b = ⟨#[35]⟩
    · have e1 : (b.toList == [35]) = true := txt_yes h1
      have HE : Hid (decide (b = ⟨#[35]⟩ ∨ b = ⟨#[47, 35]⟩) = true) := by simp [Hid, h1]
      clear h1
      go_wp2_with fail
      go_meet
      case rel => exact ⟨by rw [HE.out], rfl⟩
    · have e1 : (b.toList == [35]) = false := txt_no h1
      by_cases h2 : b = ⟨#[47, 35]⟩
      · have e2 : (b.toList == [47, 35]) = true := txt_yes h2
        have HE : Hid (decide (b = ⟨#[35]⟩ ∨ b = ⟨#[47, 35]⟩) = true) := by simp [Hid, h2]
        clear h1 h2
        go_wp2_with fail
        go_meet
        case rel => exact ⟨by rw [HE.out], rfl⟩
      · have e2 : (b.toList == [47, 35]) = false := txt_no h2
        have HE : Hid (decide (b = ⟨#[35]⟩ ∨ b = ⟨#[47, 35]⟩) = false) := by simp [Hid, h1, h2]
        clear h1 h2
        go_wp2_with fail
        go_meet
        case rel => exact ⟨by rw [HE.out], rfl⟩
  case rest =>
    obtain ⟨rfl, rfl⟩ := hcut
    go_upto_if 17 with fail
    go_cut [6] (fun v wr => ∃ g3 cap3, v = .slice (some ⟨g3, 0, none⟩) (LV (spell b)).length cap3 ∧ Hid (Lies wr g3 (LV (spell b))) ∧ Hid (Lies wr g1 (LV a)) ∧ Hid (Below w.heap.size w wr))
    case first =>
      by_cases h1 : b = ⟨#[35]⟩
      · subst h1
        have ht : decide ((⟨#[35]⟩ : ByteArray) = ⟨#[35]⟩ ∨ (⟨#[35]⟩ : ByteArray) = ⟨#[47, 35]⟩) = true := by decide
        have q1 : (LV ⟨#[35]⟩).length = 1 := by decide +kernel
        go_wp2_with fail
        go_meet
        case rel =>
          refine ⟨_, _, by rw [show LV (spell ⟨#[35]⟩) = [⟨#[43]⟩, ⟨#[35]⟩] by decide +kernel]; rfl, ?_, ?_, ?_⟩
          · intro k hk
            rw [show LV (spell ⟨#[35]⟩) = [⟨#[43]⟩, ⟨#[35]⟩] by decide +kernel] at hk
            have hk2 : k = 0 ∨ k = 1 := by simp at hk; omega
            simp only [show LV (spell ⟨#[35]⟩) = [⟨#[43]⟩, ⟨#[35]⟩] by decide +kernel]
            rcases hk2 with rfl | rfl
            · rw [World.cell?_drew, World.cell?_alloc_at _ _ _ _ (by simp), Array.getElem?_append_left (by simp)]; rfl
            · rw [World.cell?_drew, World.cell?_alloc_at _ _ _ _ (by simp), Array.getElem?_append_left (by simp)]; rfl
          · exact H1.out.below ((((Below.refl _ wc).alloc (Nat.le_refl _) _).alloc (by simp) _).alloc (by simp; omega) _).drew (Lies.lt H1.out)
          · exact (((HBW.out.alloc HBW.out.size _).alloc (by have := HBW.out.size; simp; omega) _).alloc (by have := HBW.out.size; simp; omega) _).drew
      · by_cases h2 : b = ⟨#[47, 35]⟩
        · subst h2
          have ht : decide ((⟨#[47, 35]⟩ : ByteArray) = ⟨#[35]⟩ ∨ (⟨#[47, 35]⟩ : ByteArray) = ⟨#[47, 35]⟩) = true := by decide
          have q1 : (LV ⟨#[47, 35]⟩).length = 2 := by decide +kernel
          have c0 : wc.cell? ⟨g2, 0, none⟩ = some (.string ⟨#[]⟩) := by
            have := H2.out 0 (by omega)
            simp only [show LV ⟨#[47, 35]⟩ = [⟨#[]⟩, ⟨#[35]⟩] by decide +kernel] at this
            exact this
          have hc2 : 2 ≤ cap2 := by omega
          have hg2 := Lies.lt H2.out
          have hsz := HBW.out.size
          clear h1
          go_wp2_with (first | (at_builtin; refine wpList_append_own _ rfl (.tmp 18) (.tmp 23) 30 rfl wc.heap.size 9 i0 (.string ByteArray.empty) 1 16 Tryd.underlying30 hi hz0 hz1 hz2 rfl (by decide) _ _ _ rfl (World.ownsRow_lit wc #[] 0 ?x1 ?x2 ?x3) ⟨g2, 0, none⟩ 1 cap2 [.string ⟨#[]⟩] rfl rfl ?c1 ?c2 ?c3 ?c4 ?c5 ?_) | fail)
          case c1 =>
            intro j u hj
            match j, hj with
            | 0, hj => simp at hj; subst hj; first | exact c0 | (rw [World.cell?_alloc_past _ _ _ hg2]; exact c0)
          case c2 => rfl
          case c3 => decide
          intro v1 w3 hown1 hgrow1 _
          have hbe3 : Below wc.heap.size wc w3 := ((Below.refl _ wc).alloc (Nat.le_refl _) _).grown hgrow1 (by simp) (fun g hg => by simp [Value.ownBlock] at hg; omega)
          have hs3 := hbe3.size
          go_wp2_with (first | (at_builtin; refine wpList_append_own _ rfl (.tmp 24) (.tmp 25) 30 rfl wc.heap.size 9 i0 (.string ByteArray.empty) 1 16 Tryd.underlying30 hi hz0 hz1 hz2 rfl (by decide) _ _ _ rfl (hown1.alloc _) ⟨w3.heap.size, 0, none⟩ 2 2 [.string ⟨#[43]⟩, .string ⟨#[35]⟩] rfl rfl ?d1 ?d2 ?d3 ?d4 ?d5 ?_) | fail)
          case d1 =>
            intro j u hj
            match j, hj with
            | 0, hj => simp at hj; subst hj; simp [Addr.add]
            | 1, hj => simp at hj; subst hj; simp [Addr.add]
          case d2 => intro u hu; simp at hu; rcases hu with rfl | rfl <;> rfl
          case d3 => decide
          case d4 => decide
          case d5 => simp; omega
          intro v2 w4 hown2 hgrow2 _
          obtain ⟨g3, cap3, rfl, hL3⟩ := own_lies (L := [⟨#[]⟩, ⟨#[43]⟩, ⟨#[35]⟩]) (by simp) hown2
          have hbe4 : Below wc.heap.size wc w4 := (hbe3.alloc hs3 _).grown hgrow2 (by simp; omega) (fun g hg => own_above hown1 hgrow1 hg)
          clear hown1 hown2 hgrow1 hgrow2
          go_wp2_with fail
          go_meet
          case rel =>
            refine ⟨g3, cap3, by rw [show LV (spell ⟨#[47, 35]⟩) = [⟨#[]⟩, ⟨#[43]⟩, ⟨#[35]⟩] by decide +kernel], ?_, ?_, ?_⟩
            · rw [show LV (spell ⟨#[47, 35]⟩) = [⟨#[]⟩, ⟨#[43]⟩, ⟨#[35]⟩] by decide +kernel]; exact hL3
            · exact H1.out.below hbe4 (Lies.lt H1.out)
            · exact HBW.out.trans (hbe4.mono hsz)
        · have ht : decide (b = ⟨#[35]⟩ ∨ b = ⟨#[47, 35]⟩) = false := by simp [h1, h2]
          rw [ht]
          clear ht
          have HE : Hid (spell b = b) := by rw [Hid, spell, if_neg h1, if_neg h2]
          clear h1 h2
          go_wp2_with fail
          go_meet
          case rel => exact ⟨g2, cap2, by rw [HE.out], by rw [HE.out]; exact H2, H1, HBW⟩
    case rest =>
      obtain ⟨g3, cap3, rfl, H3, H4, HB3⟩ := hcut
      clear H1 H2 HBW
      have hlo := LV_len (spell b)
      have hlo2 : (LV (spell b)).length ≤ 1048580 := Nat.le_trans hlo (by have := spell_le b; omega)
      have hlb2 : ((LV (spell b)).length : Int) ≤ 1048580 := by omega
      clear hlo hlo2 hcap2 hb ha
      generalize LV a = F at *
      generalize LV (spell b) = O at *
      go_wp2_with fail
      go_loopw [7] (fun i wr => ∃ k : Nat, k ≤ F.length ∧ k ≤ O.length ∧ i = .int .i64 k ∧ Hid (takes (F.drop k) (O.drop k) = R) ∧ Hid (Lies wr g1 F) ∧ Hid (Lies wr g3 O) ∧ Hid (Below w.heap.size w wr)) (fun i _ => F.length - (intOf i).toNat)
      case atStart => exact ⟨0, Nat.zero_le _, Nat.zero_le _, rfl, HR, H4, H3, HB3⟩
      case round =>
        clear H3 H4 HB3
        obtain ⟨k, hk, hk2, rfl, HP, H1, H2, HBW⟩ := hrel
        by_cases hlt : k < F.length
        · have cf := H1.out k hlt
          have HD := hide (takes_at hlt HP.out)
          generalize F[k] = x at *
          by_cases hx : x = ⟨#[35]⟩
          · have e1 : (x.toList == [35]) = true := txt_yes hx
            have HE := hide (HD.out.trans (if_pos hx))
            clear hx
            go_wp2
            go_ret
            exact ⟨by rw [HE.out]; rfl, HBW.out⟩
          · have e1 : (x.toList == [35]) = false := txt_no hx
            have HD2 := hide (HD.out.trans (if_neg hx))
            by_cases hko : k < O.length
            · have co := H2.out k hko
              have e2 : decide ((O.length : Int) ≤ (k : Int)) = false := by simp; omega
              have e2' : decide (O.length ≤ k) = false := by simp; omega
              have HD3 := hide (HD2.out.trans (takes_other hko))
              generalize O[k] = y at *
              have i1 : (k : Int) < (F.length : Int) := by omega
              have i2 : (k : Int) < (O.length : Int) := by omega
              have i3 : ¬ (O.length : Int) ≤ (k : Int) := by omega
              by_cases hy : y = ⟨#[35]⟩
              · have e3 : (y.toList == [35]) = true := txt_yes hy
                have HE := hide (HD3.out.trans (if_pos hy))
                clear hx hy
                go_wp2_with fail
                go_big_quiet (fail)
                go_wp2
                go_ret
                exact ⟨by rw [HE.out]; rfl, below_drewN HBW.out _⟩
              · have e3 : (y.toList == [35]) = false := txt_no hy
                have HD4 := hide (HD3.out.trans (if_neg hy))
                by_cases hp : x = ⟨#[43]⟩
                · have e4 : (x.toList == [43]) = true := txt_yes hp
                  have e5 : (x.toList != [43]) = false := by simp [bne, e4]
                  have HE := hide (HD4.out.trans (if_neg (fun h => h.1 hp))).symm
                  clear hx hy hp
                  go_wp2_with fail
                  go_big_quiet (fail)
                  go_wp2
                  go_roundw
                  case rel => exact ⟨k + 1, by omega, by omega, by go_num, HE, H1.out.drewN _, H2.out.drewN _, below_drewN HBW.out _⟩
                  case measure => simp [intOf]; omega
                · have e4 : (x.toList == [43]) = false := txt_no hp
                  have e5 : (x.toList != [43]) = true := by simp [bne, e4]
                  by_cases hxy : x = y
                  · have e6 : (x.toList == y.toList) = true := by rw [txt_eq]; simp [hxy]
                    have e7 : (x.toList != y.toList) = false := by simp [bne, e6]
                    have HE := hide (HD4.out.trans (if_neg (fun h => h.2 hxy))).symm
                    clear hx hy hp hxy
                    go_wp2_with fail
                    go_big_quiet (fail)
                    go_wp2
                    go_roundw
                    case rel => exact ⟨k + 1, by omega, by omega, by go_num, HE, H1.out.drewN _, H2.out.drewN _, below_drewN HBW.out _⟩
                    case measure => simp [intOf]; omega
                  · have e6 : (x.toList == y.toList) = false := by rw [txt_eq]; simp [hxy]
                    have e7 : (x.toList != y.toList) = true := by simp [bne, e6]
                    have HE := hide (HD4.out.trans (if_pos ⟨hp, hxy⟩))
                    clear hx hy hp hxy
                    go_wp2_with fail
                    go_big_quiet (fail)
                    go_wp2
                    go_ret
                    exact ⟨by rw [HE.out]; rfl, below_drewN HBW.out _⟩
            · have e2 : decide ((O.length : Int) ≤ (k : Int)) = true := by simp; omega
              have e2' : decide (O.length ≤ k) = true := by simp; omega
              have i3 : (O.length : Int) ≤ (k : Int) := by omega
              have HE := hide (HD2.out.trans (takes_out (by omega)))
              clear hx
              go_wp2_with fail
              go_big_quiet (fail)
              go_wp2
              go_ret
              exact ⟨by rw [HE.out]; rfl, below_drewN HBW.out _⟩
        · have HE := hide (takes_end (show k = F.length by omega) hk2 HP.out)
          go_wp2
          go_ret
          exact ⟨by rw [HE.out]; rfl, HBW.out⟩
end Go.Proofs.YtaohmbjiljgibaaDoor
