/-
  packet.checkConnect, checkConnack, checkPublish, checkCodes, checkAsks: what they answer.
-/
import Derived.Test.YtgmjdelgocbcaabDoorPacketBase
import Derived.Test.YtgmjdelgocbcaabDoorTopicMore
namespace Go.Proofs.YtgmjdelgocbcaabDoor
open Go.RowKit Go.PlainAid

set_option maxHeartbeats 1000000 in
theorem checkConnect_any (p : Pk) (aa ac : Option Addr) (ca cc : Nat) (w : World) :
    Calls Tryd.prog 42 #[pkV p aa ca ac cc] w fun e w' => e = .returned (.int .i64 (connectE p)) ∧ Below w.heap.size w w' := by
  generalize hE : connectE p = E
  obtain ⟨k, d, r, c, s, q, i, kp, cd, cl, tp, pl, sa, cs⟩ := p
  simp only [connectE] at hE
  simp only [pkV]
  by_cases h1 : 20 < (cl.size : Int)
  · rw [if_pos (by omega)] at hE
    have HE := hide hE.symm
    clear hE
    go_enter Tryd.func42, Tryd.ntmps42
    go_wp2
    go_ret
    exact ⟨by rw [HE.out]; rfl, (Below.refl _ _).alloc (Nat.le_refl _) _⟩
  · rw [if_neg (by omega)] at hE
    have hl : Hid (cl.size ≤ maxLen) := by show cl.size ≤ maxLen; unfold maxLen; omega
    cases hn : nameB cl with
    | false =>
      rw [if_pos hn] at hE
      have HE := hide hE.symm
      have HN := hide hn
      clear hn hE
      go_enter Tryd.func42, Tryd.ntmps42
      go_wp2_with (go_at_call 61; refine (isName_any _ _ hl.out).mono ?_; rintro e w' ⟨rfl, rfl⟩; rw [HN.out])
      go_ret
      exact ⟨by rw [HE.out]; rfl, (Below.refl _ _).alloc (Nat.le_refl _) _⟩
    | true =>
      rw [if_neg (by simp [hn])] at hE
      have HN := hide hn
      clear hn
      by_cases h2 : kp < 0
      · rw [if_pos (.inl h2)] at hE
        have HE := hide hE.symm
        clear hE
        go_enter Tryd.func42, Tryd.ntmps42
        go_wp2_with (go_at_call 61; refine (isName_any _ _ hl.out).mono ?_; rintro e w' ⟨rfl, rfl⟩; rw [HN.out])
        go_ret
        exact ⟨by rw [HE.out]; rfl, (Below.refl _ _).alloc (Nat.le_refl _) _⟩
      · have h2' : decide (kp < 0) = false := by simpa using h2
        by_cases h3 : 65535 < kp
        · rw [if_pos (.inr h3)] at hE
          have HE := hide hE.symm
          clear hE
          go_enter Tryd.func42, Tryd.ntmps42
          go_wp2_with (go_at_call 61; refine (isName_any _ _ hl.out).mono ?_; rintro e w' ⟨rfl, rfl⟩; rw [HN.out])
          go_ret
          exact ⟨by rw [HE.out]; rfl, (Below.refl _ _).alloc (Nat.le_refl _) _⟩
        · have h3' : decide (65535 < kp) = false := by simpa using h3
          rw [if_neg (by omega)] at hE
          have HE := hide hE.symm
          clear hE
          go_enter Tryd.func42, Tryd.ntmps42
          go_wp2_with (go_at_call 61; refine (isName_any _ _ hl.out).mono ?_; rintro e w' ⟨rfl, rfl⟩; rw [HN.out])
          go_ret
          exact ⟨by rw [HE.out]; rfl, (Below.refl _ _).alloc (Nat.le_refl _) _⟩

set_option maxHeartbeats 1000000 in
theorem checkConnack_any (p : Pk) (aa ac : Option Addr) (ca cc : Nat) (w : World) :
    Calls Tryd.prog 43 #[pkV p aa ca ac cc] w fun e w' => e = .returned (.int .i64 (connackE p)) ∧ Below w.heap.size w w' := by
  generalize hE : connackE p = E
  obtain ⟨k, d, r, c, s, q, i, kp, cd, cl, tp, pl, sa, cs⟩ := p
  simp only [connackE] at hE
  simp only [pkV]
  by_cases h2 : cd < 0
  · rw [if_pos (.inl h2)] at hE
    have HE := hide hE.symm
    clear hE
    go_enter Tryd.func43, Tryd.ntmps43
    go_wp2
    go_ret
    exact ⟨by rw [HE.out]; rfl, (Below.refl _ _).alloc (Nat.le_refl _) _⟩
  · have h2' : decide (cd < 0) = false := by simpa using h2
    by_cases h3 : 5 < cd
    · rw [if_pos (.inr h3)] at hE
      have HE := hide hE.symm
      clear hE
      go_enter Tryd.func43, Tryd.ntmps43
      go_wp2
      go_ret
      exact ⟨by rw [HE.out]; rfl, (Below.refl _ _).alloc (Nat.le_refl _) _⟩
    · have h3' : decide (5 < cd) = false := by simpa using h3
      rw [if_neg (by omega)] at hE
      cases s with
      | false =>
        rw [if_neg (by simp)] at hE
        have HE := hide hE.symm
        clear hE
        go_enter Tryd.func43, Tryd.ntmps43
        go_wp2
        go_ret
        exact ⟨by rw [HE.out]; rfl, (Below.refl _ _).alloc (Nat.le_refl _) _⟩
      | true =>
        by_cases h4 : cd = 0
        · rw [if_neg (by simp [h4])] at hE
          have HE := hide hE.symm
          clear hE
          subst h4
          go_enter Tryd.func43, Tryd.ntmps43
          go_wp2
          go_ret
          exact ⟨by rw [HE.out]; rfl, (Below.refl _ _).alloc (Nat.le_refl _) _⟩
        · have h4' : (cd != 0) = true := by simp [h4]
          rw [if_pos ⟨rfl, h4⟩] at hE
          have HE := hide hE.symm
          clear hE h4
          go_enter Tryd.func43, Tryd.ntmps43
          go_wp2
          go_ret
          exact ⟨by rw [HE.out]; rfl, (Below.refl _ _).alloc (Nat.le_refl _) _⟩

theorem firstE_take {α : Type} (f : α → Int) (l : List α) (k : Nat) (h : firstE f (l.take k) = 0) (hk : k < l.length) (E : Int) (hE : firstE f l = E) :
    (f l[k] = 0 → firstE f (l.take (k + 1)) = 0) ∧ (f l[k] ≠ 0 → E = f l[k]) := by
  induction l generalizing k with
  | nil => simp at hk
  | cons a l ih =>
    cases k with
    | zero =>
      refine ⟨fun h => by simp only [List.getElem_cons_zero] at h; simp [firstE, h], fun h => ?_⟩
      simp only [List.getElem_cons_zero] at h ⊢
      rw [← hE, firstE, if_pos h]
    | succ k =>
      simp only [List.take_succ_cons, firstE] at h
      split at h
      · rename_i hne; exact absurd h hne
      · rename_i hz
        simp only [firstE, if_neg hz] at hE
        simp only [List.getElem_cons_succ, List.take_succ_cons, firstE, if_neg hz]
        exact ih k h (by simpa using hk) hE

set_option maxHeartbeats 1000000 in
theorem checkCodes_any (l : List Int) (ac : Option Addr) (cc : Nat) (w : World) (hl : IntsIn w ac l) :
    Calls Tryd.prog 66 #[.slice ac l.length cc] w fun e w' => e = .returned (.int .i64 (codesE l)) ∧ w' = w := by
  generalize hE : codesE l = E
  simp only [codesE] at hE
  by_cases h0 : countE l.length = 0
  · rw [if_neg (by simp [h0])] at hE
    have hc : 0 < l.length ∧ l.length ≤ 5 := by
      unfold countE at h0
      split at h0
      · omega
      · split at h0 <;> omega
    obtain ⟨b, o, rfl, hb, hcell⟩ : ∃ b o, ac = some ⟨b, o, none⟩ ∧ b < w.heap.size ∧ ∀ i (h : i < l.length), w.cell? ⟨b, o + i, none⟩ = some (.int .i64 l[i]) := by
      rcases hl with rfl | h
      · simp at hc
      · exact h
    have HE := hide hE
    have H0 := hide h0
    clear hE h0 hl
    go_enter Tryd.func66, Tryd.ntmps66
    go_wp2_with (go_at_call 81; refine (checkCount_any _ _).mono ?_; rintro e w' ⟨rfl, rfl⟩; rw [H0.out])
    go_loop [14] (fun i => ∃ k : Nat, k ≤ l.length ∧ i = .int .i64 k ∧ Hid (firstE codeE (l.take k) = 0)) (fun i => l.length - (intOf i).toNat)
    case atStart => exact ⟨0, by omega, rfl, rfl⟩
    case round =>
      obtain ⟨k, hk, rfl, HF⟩ := hrel
      by_cases hlt : k < l.length
      · have hck := hcell k hlt
        have HT := hide (firstE_take codeE l k HF.out hlt E HE.out)
        clear hcell
        generalize l[k] = x at *
        by_cases hx : x = 0 ∨ x = 1
        · have hx1 : qosB x = true := by unfold qosB; simpa using hx
          have HX := hide hx1
          have HR := hide (HT.out.1 (by unfold codeE; rw [if_pos (by omega)]))
          clear hx hx1
          go_wp2_with (go_at_call 63; refine (isQos_any _ _).mono ?_; rintro e w' ⟨rfl, rfl⟩; rw [HX.out])
          go_round
          case rel => exact ⟨k + 1, by omega, by go_num, HR⟩
          case measure => simp [intOf]; omega
        · have hx1 : qosB x = false := by unfold qosB; simpa using hx
          have HX := hide hx1
          by_cases h2 : x = 128
          · have HR := hide (HT.out.1 (by unfold codeE; rw [if_pos (by omega)]))
            clear hx hx1
            subst h2
            go_wp2_with (go_at_call 63; refine (isQos_any _ _).mono ?_; rintro e w' ⟨rfl, rfl⟩; rw [HX.out])
            go_round
            case rel => exact ⟨k + 1, by omega, by go_num, HR⟩
            case measure => simp [intOf]; omega
          · have hc3 : codeE x = 3 := by unfold codeE; rw [if_neg (by omega)]
            have HR := hide (HT.out.2 (by rw [hc3]; decide))
            rw [hc3] at HR
            have h2' : (x != 128) = true := by simp [h2]
            clear hx hx1 h2 hc3
            go_wp2_with (go_at_call 63; refine (isQos_any _ _).mono ?_; rintro e w' ⟨rfl, rfl⟩; rw [HX.out])
            go_ret
            exact ⟨by rw [HR.out]; rfl, rfl⟩
      · have HR : Hid (E = 0) := by
          have h1 := HF.out
          rw [List.take_of_length_le (by omega)] at h1
          exact HE.out.symm.trans h1
        go_wp2
        go_ret
        exact ⟨by rw [HR.out]; rfl, rfl⟩
  · rw [if_pos h0] at hE
    have h1 : (countE l.length != 0) = true := by simp [h0]
    have HE := hide hE.symm
    clear h0 hE
    go_enter Tryd.func66, Tryd.ntmps66
    go_wp2_with (go_at_call 81; refine (checkCount_any _ _).mono ?_; rintro e w' ⟨rfl, rfl⟩)
    go_ret
    exact ⟨by rw [HE.out]; rfl, rfl⟩
end Go.Proofs.YtgmjdelgocbcaabDoor
/-
  packet.checkPublish and checkAsks: what they answer.
-/
namespace Go.Proofs.YtgmjdelgocbcaabDoor
open Go.RowKit Go.PlainAid

theorem bcell {W w1 : World} (hb : Below W.heap.size W w1) : (∀ b o, b < W.heap.size → w1.cell? ⟨b, o, none⟩ = W.cell? ⟨b, o, none⟩) ∧ (∀ b o, b < W.heap.size → w1.frozen? ⟨b, o, none⟩ = W.frozen? ⟨b, o, none⟩) :=
  ⟨fun b o h => hb.cell (p := ⟨b, o, none⟩) h, fun b o h => hb.frozen (p := ⟨b, o, none⟩) h⟩

set_option maxHeartbeats 1000000 in
theorem checkPublish_any (p : Pk) (aa ac : Option Addr) (ca cc : Nat) (w : World) (hm : Max w) :
    Calls Tryd.prog 44 #[pkV p aa ca ac cc] w fun e w' => e = .returned (.int .i64 (publishE p)) ∧ Below w.heap.size w w' := by
  generalize hE : publishE p = E
  obtain ⟨k, d, r, c, s, q, i, kp, cd, cl, tp, pl, sa, cs⟩ := p
  simp only [publishE] at hE
  simp only [pkV]
  have hm := hide hm
  by_cases h1 : chk nameF tp = 0
  · rw [if_neg (by simp [h1])] at hE
    have H1 := hide h1
    clear h1
    by_cases h2 : 200 < (pl.size : Int)
    · rw [if_pos (by omega)] at hE
      have HE := hide hE.symm
      clear hE
      go_enter Tryd.func44, Tryd.ntmps44
      go_wp2_with fail
      refine (name_max tp _ (hm.out.alloc _)).mono ?_
      rintro e w1 ⟨rfl, hb1⟩
      obtain ⟨hc, hf⟩ := bcell hb1
      have HB := hide (below_step ((Below.refl w.heap.size w).alloc (Nat.le_refl _) _) hb1)
      rw [H1.out]
      go_wp2
      go_ret
      exact ⟨by rw [HE.out]; rfl, HB.out⟩
    · rw [if_neg (by omega)] at hE
      by_cases h3 : q = 0
      · rw [if_neg (by simp [h3]), if_neg (by simp [h3])] at hE
        cases d with
        | true =>
          rw [if_pos (.inl rfl)] at hE
          have HE := hide hE.symm
          clear hE
          subst h3
          go_enter Tryd.func44, Tryd.ntmps44
          go_wp2_with fail
          refine (name_max tp _ (hm.out.alloc _)).mono ?_
          rintro e w1 ⟨rfl, hb1⟩
          obtain ⟨hc, hf⟩ := bcell hb1
          have HB := hide (below_step ((Below.refl w.heap.size w).alloc (Nat.le_refl _) _) hb1)
          rw [H1.out]
          go_wp2_with (go_at_call 63; refine (isQos_any _ _).mono ?_; rintro e w' ⟨rfl, rfl⟩)
          go_ret
          exact ⟨by rw [HE.out]; rfl, HB.out⟩
        | false =>
          by_cases h4 : i = 0
          · rw [if_neg (by simp [h4])] at hE
            have HE := hide hE.symm
            clear hE
            subst h3
            subst h4
            go_enter Tryd.func44, Tryd.ntmps44
            go_wp2_with fail
            refine (name_max tp _ (hm.out.alloc _)).mono ?_
            rintro e w1 ⟨rfl, hb1⟩
            obtain ⟨hc, hf⟩ := bcell hb1
            have HB := hide (below_step ((Below.refl w.heap.size w).alloc (Nat.le_refl _) _) hb1)
            rw [H1.out]
            go_wp2_with (go_at_call 63; refine (isQos_any _ _).mono ?_; rintro e w' ⟨rfl, rfl⟩)
            go_ret
            exact ⟨by rw [HE.out]; rfl, HB.out⟩
          · rw [if_pos (.inr h4)] at hE
            have h4' : (i != 0) = true := by simp [h4]
            have HE := hide hE.symm
            clear hE h4
            subst h3
            go_enter Tryd.func44, Tryd.ntmps44
            go_wp2_with fail
            refine (name_max tp _ (hm.out.alloc _)).mono ?_
            rintro e w1 ⟨rfl, hb1⟩
            obtain ⟨hc, hf⟩ := bcell hb1
            have HB := hide (below_step ((Below.refl w.heap.size w).alloc (Nat.le_refl _) _) hb1)
            rw [H1.out]
            go_wp2_with (go_at_call 63; refine (isQos_any _ _).mono ?_; rintro e w' ⟨rfl, rfl⟩)
            go_ret
            exact ⟨by rw [HE.out]; rfl, HB.out⟩
      · by_cases h4 : q = 1
        · rw [if_neg (by simp [h4]), if_pos h4] at hE
          have HE := hide hE.symm
          clear hE h3
          subst h4
          go_enter Tryd.func44, Tryd.ntmps44
          go_wp2_with fail
          refine (name_max tp _ (hm.out.alloc _)).mono ?_
          rintro e w1 ⟨rfl, hb1⟩
          obtain ⟨hc, hf⟩ := bcell hb1
          have HB := hide (below_step ((Below.refl w.heap.size w).alloc (Nat.le_refl _) _) hb1)
          rw [H1.out]
          go_wp2_with (first | (go_at_call 63; refine (isQos_any _ _).mono ?_; rintro e w' ⟨rfl, rfl⟩) | (go_at_call 64; refine (checkId_any _ _).mono ?_; rintro e w' ⟨rfl, rfl⟩))
          go_ret
          exact ⟨by rw [HE.out]; rfl, HB.out⟩
        · rw [if_pos (by omega)] at hE
          have hq : qosB q = false := by unfold qosB; simp [h3, h4]
          have HE := hide hE.symm
          have HQ := hide hq
          clear hE h3 h4 hq
          go_enter Tryd.func44, Tryd.ntmps44
          go_wp2_with fail
          refine (name_max tp _ (hm.out.alloc _)).mono ?_
          rintro e w1 ⟨rfl, hb1⟩
          obtain ⟨hc, hf⟩ := bcell hb1
          have HB := hide (below_step ((Below.refl w.heap.size w).alloc (Nat.le_refl _) _) hb1)
          rw [H1.out]
          go_wp2_with (go_at_call 63; refine (isQos_any _ _).mono ?_; rintro e w' ⟨rfl, rfl⟩; rw [HQ.out])
          go_ret
          exact ⟨by rw [HE.out]; rfl, HB.out⟩
  · rw [if_pos h1] at hE
    have h1' : (chk nameF tp != 0) = true := by simp [h1]
    have HE := hide hE.symm
    clear hE h1
    go_enter Tryd.func44, Tryd.ntmps44
    go_wp2_with fail
    refine (name_max tp _ (hm.out.alloc _)).mono ?_
    rintro e w1 ⟨rfl, hb1⟩
    obtain ⟨hc, hf⟩ := bcell hb1
    have HB := hide (below_step ((Below.refl w.heap.size w).alloc (Nat.le_refl _) _) hb1)
    skip
    go_wp2
    go_ret
    exact ⟨by rw [HE.out]; rfl, HB.out⟩
end Go.Proofs.YtgmjdelgocbcaabDoor
