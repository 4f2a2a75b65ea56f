/-
  packet.checkConnect, checkConnack, checkPublish, checkCodes, checkAsks: what they answer.
-/
import Derived.Test.YtnhcecgmcmcioaaDoorPacketBase
import Derived.Test.YtnhcecgmcmcioaaDoorTopicCheck
import Derived.Deep.DeepCutAuto
namespace Go.Proofs.YtnhcecgmcmcioaaDoor
open Go.RowKit Go.PlainAid

set_option maxHeartbeats 1000000 in
theorem checkConnect_any (p : Pk) (aa ac : Option Addr) (ca cc : Nat) (w : World) :
    Calls Tryd.prog 61 #[pkV p aa ca ac cc] w fun e w' => e = .returned (.int .i64 (connectE p)) ∧ Below w.heap.size w w' := by
  generalize hE : connectE p = E
  obtain ⟨k, d, r, c, s, q, i, kp, cd, cl, tp, pl, sa, cs⟩ := p
  simp only [connectE] at hE
  simp only [pkV]
  by_cases h1 : 20 < (cl.size : Int)
  · rw [if_pos (by omega)] at hE
    have HE := hide hE.symm
    clear hE
    go_enter Tryd.func61, Tryd.ntmps61
    go_wp2
    go_ret
    exact ⟨by rw [HE.out]; rfl, (Below.refl _ _).alloc (Nat.le_refl _) _⟩
  · rw [if_neg (by omega)] at hE
    have hl : Hid (cl.size ≤ maxLen) := by show cl.size ≤ maxLen; unfold maxLen; omega
    cases hn : nameB cl with
    | false =>
      rw [if_pos hn] at hE
      have HE := hide hE.symm
      have HN := hide hn
      clear hn hE
      go_enter Tryd.func61, Tryd.ntmps61
      go_wp2_with (go_at_call 70; refine (isName_any _ _ hl.out).mono ?_; rintro e w' ⟨rfl, rfl⟩; rw [HN.out])
      go_ret
      exact ⟨by rw [HE.out]; rfl, (Below.refl _ _).alloc (Nat.le_refl _) _⟩
    | true =>
      rw [if_neg (by simp [hn])] at hE
      have HN := hide hn
      clear hn
      by_cases h2 : kp < 0
      · rw [if_pos (.inl h2)] at hE
        have HE := hide hE.symm
        clear hE
        go_enter Tryd.func61, Tryd.ntmps61
        go_wp2_with (go_at_call 70; refine (isName_any _ _ hl.out).mono ?_; rintro e w' ⟨rfl, rfl⟩; rw [HN.out])
        go_ret
        exact ⟨by rw [HE.out]; rfl, (Below.refl _ _).alloc (Nat.le_refl _) _⟩
      · have h2' : decide (kp < 0) = false := by simpa using h2
        by_cases h3 : 65535 < kp
        · rw [if_pos (.inr h3)] at hE
          have HE := hide hE.symm
          clear hE
          go_enter Tryd.func61, Tryd.ntmps61
          go_wp2_with (go_at_call 70; refine (isName_any _ _ hl.out).mono ?_; rintro e w' ⟨rfl, rfl⟩; rw [HN.out])
          go_ret
          exact ⟨by rw [HE.out]; rfl, (Below.refl _ _).alloc (Nat.le_refl _) _⟩
        · have h3' : decide (65535 < kp) = false := by simpa using h3
          rw [if_neg (by omega)] at hE
          have HE := hide hE.symm
          clear hE
          go_enter Tryd.func61, Tryd.ntmps61
          go_wp2_with (go_at_call 70; refine (isName_any _ _ hl.out).mono ?_; rintro e w' ⟨rfl, rfl⟩; rw [HN.out])
          go_ret
          exact ⟨by rw [HE.out]; rfl, (Below.refl _ _).alloc (Nat.le_refl _) _⟩

set_option maxHeartbeats 1000000 in
theorem checkConnack_any (p : Pk) (aa ac : Option Addr) (ca cc : Nat) (w : World) :
    Calls Tryd.prog 62 #[pkV p aa ca ac cc] w fun e w' => e = .returned (.int .i64 (connackE p)) ∧ Below w.heap.size w w' := by
  generalize hE : connackE p = E
  obtain ⟨k, d, r, c, s, q, i, kp, cd, cl, tp, pl, sa, cs⟩ := p
  simp only [connackE] at hE
  simp only [pkV]
  by_cases h2 : cd < 0
  · rw [if_pos (.inl h2)] at hE
    have HE := hide hE.symm
    clear hE
    go_enter Tryd.func62, Tryd.ntmps62
    go_wp2
    go_ret
    exact ⟨by rw [HE.out]; rfl, (Below.refl _ _).alloc (Nat.le_refl _) _⟩
  · have h2' : decide (cd < 0) = false := by simpa using h2
    by_cases h3 : 5 < cd
    · rw [if_pos (.inr h3)] at hE
      have HE := hide hE.symm
      clear hE
      go_enter Tryd.func62, Tryd.ntmps62
      go_wp2
      go_ret
      exact ⟨by rw [HE.out]; rfl, (Below.refl _ _).alloc (Nat.le_refl _) _⟩
    · have h3' : decide (5 < cd) = false := by simpa using h3
      rw [if_neg (by omega)] at hE
      cases s with
      | false =>
        rw [if_neg (by simp)] at hE
        have HE := hide hE.symm
        clear hE
        go_enter Tryd.func62, Tryd.ntmps62
        go_wp2
        go_ret
        exact ⟨by rw [HE.out]; rfl, (Below.refl _ _).alloc (Nat.le_refl _) _⟩
      | true =>
        by_cases h4 : cd = 0
        · rw [if_neg (by simp [h4])] at hE
          have HE := hide hE.symm
          clear hE
          subst h4
          go_enter Tryd.func62, Tryd.ntmps62
          go_wp2
          go_ret
          exact ⟨by rw [HE.out]; rfl, (Below.refl _ _).alloc (Nat.le_refl _) _⟩
        · have h4' : (cd != 0) = true := by simp [h4]
          rw [if_pos ⟨rfl, h4⟩] at hE
          have HE := hide hE.symm
          clear hE h4
          go_enter Tryd.func62, Tryd.ntmps62
          go_wp2
          go_ret
          exact ⟨by rw [HE.out]; rfl, (Below.refl _ _).alloc (Nat.le_refl _) _⟩

theorem firstE_take {α : Type} (f : α → Int) (l : List α) (k : Nat) (h : firstE f (l.take k) = 0) (hk : k < l.length) (E : Int) (hE : firstE f l = E) :
    (f l[k] = 0 → firstE f (l.take (k + 1)) = 0) ∧ (f l[k] ≠ 0 → E = f l[k]) := by
  induction l generalizing k with
  | nil => simp at hk
  | cons a l ih =>
    cases k with
    | zero =>
      refine ⟨fun h => by simp only [List.getElem_cons_zero] at h; simp [firstE, h], fun h => ?_⟩
      simp only [List.getElem_cons_zero] at h ⊢
      rw [← hE, firstE, if_pos h]
    | succ k =>
      simp only [List.take_succ_cons, firstE] at h
      split at h
      · rename_i hne; exact absurd h hne
      · rename_i hz
        simp only [firstE, if_neg hz] at hE
        simp only [List.getElem_cons_succ, List.take_succ_cons, firstE, if_neg hz]
        exact ih k h (by simpa using hk) hE

set_option maxHeartbeats 1000000 in
theorem checkCodes_any (l : List Int) (ac : Option Addr) (cc : Nat) (w : World) (hl : IntsIn w ac l) :
    Calls Tryd.prog 74 #[.slice ac l.length cc] w fun e w' => e = .returned (.int .i64 (codesE l)) ∧ w' = w := by
  generalize hE : codesE l = E
  simp only [codesE] at hE
  by_cases h0 : countE l.length = 0
  · rw [if_neg (by simp [h0])] at hE
    have hc : 0 < l.length ∧ l.length ≤ 5 := by
      unfold countE at h0
      split at h0
      · omega
      · split at h0 <;> omega
    obtain ⟨b, o, rfl, hb, hcell⟩ : ∃ b o, ac = some ⟨b, o, none⟩ ∧ b < w.heap.size ∧ ∀ i (h : i < l.length), w.cell? ⟨b, o + i, none⟩ = some (.int .i64 l[i]) := by
      rcases hl with rfl | h
      · simp at hc
      · exact h
    have HE := hide hE
    have H0 := hide h0
    clear hE h0 hl
    go_enter Tryd.func74, Tryd.ntmps74
    go_wp2_with (go_at_call 76; refine (checkCount_any _ _).mono ?_; rintro e w' ⟨rfl, rfl⟩; rw [H0.out])
    go_loop [14] (fun i => ∃ k : Nat, k ≤ l.length ∧ i = .int .i64 k ∧ Hid (firstE codeE (l.take k) = 0)) (fun i => l.length - (intOf i).toNat)
    case atStart => exact ⟨0, by omega, rfl, rfl⟩
    case round =>
      obtain ⟨k, hk, rfl, HF⟩ := hrel
      by_cases hlt : k < l.length
      · have hck := hcell k hlt
        have HT := hide (firstE_take codeE l k HF.out hlt E HE.out)
        clear hcell
        generalize l[k] = x at *
        by_cases hx : x = 0 ∨ x = 1
        · have hx1 : qosB x = true := by unfold qosB; simpa using hx
          have HX := hide hx1
          have HR := hide (HT.out.1 (by unfold codeE; rw [if_pos (by omega)]))
          clear hx hx1
          go_wp2_with (go_at_call 71; refine (isQos_any _ _).mono ?_; rintro e w' ⟨rfl, rfl⟩; rw [HX.out])
          go_round
          case rel => exact ⟨k + 1, by omega, by go_num, HR⟩
          case measure => simp [intOf]; omega
        · have hx1 : qosB x = false := by unfold qosB; simpa using hx
          have HX := hide hx1
          by_cases h2 : x = 128
          · have HR := hide (HT.out.1 (by unfold codeE; rw [if_pos (by omega)]))
            clear hx hx1
            subst h2
            go_wp2_with (go_at_call 71; refine (isQos_any _ _).mono ?_; rintro e w' ⟨rfl, rfl⟩; rw [HX.out])
            go_round
            case rel => exact ⟨k + 1, by omega, by go_num, HR⟩
            case measure => simp [intOf]; omega
          · have hc3 : codeE x = 3 := by unfold codeE; rw [if_neg (by omega)]
            have HR := hide (HT.out.2 (by rw [hc3]; decide))
            rw [hc3] at HR
            have h2' : (x != 128) = true := by simp [h2]
            clear hx hx1 h2 hc3
            go_wp2_with (go_at_call 71; refine (isQos_any _ _).mono ?_; rintro e w' ⟨rfl, rfl⟩; rw [HX.out])
            go_ret
            exact ⟨by rw [HR.out]; rfl, rfl⟩
      · have HR : Hid (E = 0) := by
          have h1 := HF.out
          rw [List.take_of_length_le (by omega)] at h1
          exact HE.out.symm.trans h1
        go_wp2
        go_ret
        exact ⟨by rw [HR.out]; rfl, rfl⟩
  · rw [if_pos h0] at hE
    have h1 : (countE l.length != 0) = true := by simp [h0]
    have HE := hide hE.symm
    clear h0 hE
    go_enter Tryd.func74, Tryd.ntmps74
    go_wp2_with (go_at_call 76; refine (checkCount_any _ _).mono ?_; rintro e w' ⟨rfl, rfl⟩)
    go_ret
    exact ⟨by rw [HE.out]; rfl, rfl⟩
end Go.Proofs.YtnhcecgmcmcioaaDoor
/-
  packet.checkPublish and checkAsks: what they answer.
-/
namespace Go.Proofs.YtnhcecgmcmcioaaDoor
open Go.RowKit Go.PlainAid

theorem bcell {W w1 : World} (hb : Below W.heap.size W w1) : (∀ b o, b < W.heap.size → w1.cell? ⟨b, o, none⟩ = W.cell? ⟨b, o, none⟩) ∧ (∀ b o, b < W.heap.size → w1.frozen? ⟨b, o, none⟩ = W.frozen? ⟨b, o, none⟩) :=
  ⟨fun b o h => hb.cell (p := ⟨b, o, none⟩) h, fun b o h => hb.frozen (p := ⟨b, o, none⟩) h⟩

set_option maxHeartbeats 1000000 in
theorem checkPublish_any (p : Pk) (aa ac : Option Addr) (ca cc : Nat) (w : World) (hm : Max w) :
    Calls Tryd.prog 63 #[pkV p aa ca ac cc] w fun e w' => e = .returned (.int .i64 (publishE p)) ∧ Below w.heap.size w w' := by
  generalize hE : publishE p = E
  obtain ⟨k, d, r, c, s, q, i, kp, cd, cl, tp, pl, sa, cs⟩ := p
  simp only [publishE] at hE
  simp only [pkV]
  have hm := hide hm
  by_cases h1 : chk nameF tp = 0
  · rw [if_neg (by simp [h1])] at hE
    have H1 := hide h1
    clear h1
    by_cases h2 : 200 < (pl.size : Int)
    · rw [if_pos (by omega)] at hE
      have HE := hide hE.symm
      clear hE
      go_enter Tryd.func63, Tryd.ntmps63
      go_wp2_with fail
      refine (name_max tp _ (hm.out.alloc _)).mono ?_
      rintro e w1 ⟨rfl, hb1⟩
      obtain ⟨hc, hf⟩ := bcell hb1
      have HB := hide (below_step ((Below.refl w.heap.size w).alloc (Nat.le_refl _) _) hb1)
      rw [H1.out]
      go_wp2
      go_ret
      exact ⟨by rw [HE.out]; rfl, HB.out⟩
    · rw [if_neg (by omega)] at hE
      by_cases h3 : q = 0
      · rw [if_neg (by simp [h3]), if_neg (by simp [h3])] at hE
        cases d with
        | true =>
          rw [if_pos (.inl rfl)] at hE
          have HE := hide hE.symm
          clear hE
          subst h3
          go_enter Tryd.func63, Tryd.ntmps63
          go_wp2_with fail
          refine (name_max tp _ (hm.out.alloc _)).mono ?_
          rintro e w1 ⟨rfl, hb1⟩
          obtain ⟨hc, hf⟩ := bcell hb1
          have HB := hide (below_step ((Below.refl w.heap.size w).alloc (Nat.le_refl _) _) hb1)
          rw [H1.out]
          go_wp2_with (go_at_call 71; refine (isQos_any _ _).mono ?_; rintro e w' ⟨rfl, rfl⟩)
          go_ret
          exact ⟨by rw [HE.out]; rfl, HB.out⟩
        | false =>
          by_cases h4 : i = 0
          · rw [if_neg (by simp [h4])] at hE
            have HE := hide hE.symm
            clear hE
            subst h3
            subst h4
            go_enter Tryd.func63, Tryd.ntmps63
            go_wp2_with fail
            refine (name_max tp _ (hm.out.alloc _)).mono ?_
            rintro e w1 ⟨rfl, hb1⟩
            obtain ⟨hc, hf⟩ := bcell hb1
            have HB := hide (below_step ((Below.refl w.heap.size w).alloc (Nat.le_refl _) _) hb1)
            rw [H1.out]
            go_wp2_with (go_at_call 71; refine (isQos_any _ _).mono ?_; rintro e w' ⟨rfl, rfl⟩)
            go_ret
            exact ⟨by rw [HE.out]; rfl, HB.out⟩
          · rw [if_pos (.inr h4)] at hE
            have h4' : (i != 0) = true := by simp [h4]
            have HE := hide hE.symm
            clear hE h4
            subst h3
            go_enter Tryd.func63, Tryd.ntmps63
            go_wp2_with fail
            refine (name_max tp _ (hm.out.alloc _)).mono ?_
            rintro e w1 ⟨rfl, hb1⟩
            obtain ⟨hc, hf⟩ := bcell hb1
            have HB := hide (below_step ((Below.refl w.heap.size w).alloc (Nat.le_refl _) _) hb1)
            rw [H1.out]
            go_wp2_with (go_at_call 71; refine (isQos_any _ _).mono ?_; rintro e w' ⟨rfl, rfl⟩)
            go_ret
            exact ⟨by rw [HE.out]; rfl, HB.out⟩
      · by_cases h4 : q = 1
        · rw [if_neg (by simp [h4]), if_pos h4] at hE
          have HE := hide hE.symm
          clear hE h3
          subst h4
          go_enter Tryd.func63, Tryd.ntmps63
          go_wp2_with fail
          refine (name_max tp _ (hm.out.alloc _)).mono ?_
          rintro e w1 ⟨rfl, hb1⟩
          obtain ⟨hc, hf⟩ := bcell hb1
          have HB := hide (below_step ((Below.refl w.heap.size w).alloc (Nat.le_refl _) _) hb1)
          rw [H1.out]
          go_wp2_with (first | (go_at_call 71; refine (isQos_any _ _).mono ?_; rintro e w' ⟨rfl, rfl⟩) | (go_at_call 72; refine (checkId_any _ _).mono ?_; rintro e w' ⟨rfl, rfl⟩))
          go_ret
          exact ⟨by rw [HE.out]; rfl, HB.out⟩
        · rw [if_pos (by omega)] at hE
          have hq : qosB q = false := by unfold qosB; simp [h3, h4]
          have HE := hide hE.symm
          have HQ := hide hq
          clear hE h3 h4 hq
          go_enter Tryd.func63, Tryd.ntmps63
          go_wp2_with fail
          refine (name_max tp _ (hm.out.alloc _)).mono ?_
          rintro e w1 ⟨rfl, hb1⟩
          obtain ⟨hc, hf⟩ := bcell hb1
          have HB := hide (below_step ((Below.refl w.heap.size w).alloc (Nat.le_refl _) _) hb1)
          rw [H1.out]
          go_wp2_with (go_at_call 71; refine (isQos_any _ _).mono ?_; rintro e w' ⟨rfl, rfl⟩; rw [HQ.out])
          go_ret
          exact ⟨by rw [HE.out]; rfl, HB.out⟩
  · rw [if_pos h1] at hE
    have h1' : (chk nameF tp != 0) = true := by simp [h1]
    have HE := hide hE.symm
    clear hE h1
    go_enter Tryd.func63, Tryd.ntmps63
    go_wp2_with fail
    refine (name_max tp _ (hm.out.alloc _)).mono ?_
    rintro e w1 ⟨rfl, hb1⟩
    obtain ⟨hc, hf⟩ := bcell hb1
    have HB := hide (below_step ((Below.refl w.heap.size w).alloc (Nat.le_refl _) _) hb1)
    skip
    go_wp2
    go_ret
    exact ⟨by rw [HE.out]; rfl, HB.out⟩
end Go.Proofs.YtnhcecgmcmcioaaDoor
/-
  packet.checkAsks: what it answers.
-/
namespace Go.Proofs.YtnhcecgmcmcioaaDoor
open Go.RowKit Go.PlainAid

set_option maxHeartbeats 1000000 in
theorem checkAsks_any (p : Pk) (aa ac : Option Addr) (ca cc : Nat) (w : World) (hm : Max w) (hl : AsksIn w aa p.asks) :
    Calls Tryd.prog 73 #[pkV p aa ca ac cc] w fun e w' => e = .returned (.int .i64 (asksE p)) ∧ Below w.heap.size w w' := by
  generalize hE : asksE p = E
  obtain ⟨k, d, r, c, s, q, i, kp, cd, cl, tp, pl, l, cs⟩ := p
  simp only [asksE] at hE
  simp only [pkV]
  have hm := hide hm
  by_cases h0 : countE l.length = 0
  · rw [if_neg (by simp [h0])] at hE
    have hc : 0 < l.length ∧ l.length ≤ 5 := by
      unfold countE at h0
      split at h0
      · omega
      · split at h0 <;> omega
    obtain ⟨b, o, rfl, hb, hcell⟩ : ∃ b o, aa = some ⟨b, o, none⟩ ∧ b < w.heap.size ∧ ∀ i (h : i < l.length), w.cell? ⟨b, o + i * 2, none⟩ = some (.string l[i].1) ∧ w.cell? ⟨b, o + i * 2 + 1, none⟩ = some (.int .i64 l[i].2) := by
      rcases hl with rfl | h
      · simp at hc
      · exact h
    have HE := hide hE
    have H0 := hide h0
    have HC := hide hcell
    clear hE h0 hl hcell
    go_enter Tryd.func73, Tryd.ntmps73
    go_wp2_with (go_at_call 76; refine (checkCount_any _ _).mono ?_; rintro e w' ⟨rfl, rfl⟩; rw [H0.out])
    generalize hW : w.alloc _ = W
    have hWs : W.heap.size = w.heap.size + 1 := by rw [← hW]; simp
    have hWk : W.cell? ⟨w.heap.size, 0, none⟩ = some (.int .i64 k) := by rw [← hW]; simp
    have HW : Hid (Below w.heap.size w W) := by show Below _ _ _; rw [← hW]; exact (Below.refl _ _).alloc (Nat.le_refl _) _
    have HM := hide (hm.out.below HW.out)
    clear hW
    go_loopw [17] (fun i wr => ∃ n : Nat, n ≤ l.length ∧ i = .int .i64 n ∧ Hid (firstE (askE k) (l.take n) = 0) ∧ Below W.heap.size W wr) (fun i _ => l.length - (intOf i).toNat)
    case atStart => exact ⟨0, by omega, rfl, rfl, Below.refl _ _⟩
    case round =>
      obtain ⟨n, hn, rfl, HF, hB⟩ := hrel
      have HB := hide hB
      have hs := hB.size
      obtain ⟨hcc, hff⟩ := bcell hB
      have hkk : wr.cell? ⟨w.heap.size, 0, none⟩ = some (.int .i64 k) := by rw [hcc _ _ (by omega)]; exact hWk
      have HCC := hide hcc
      clear hB hcc hff
      by_cases hlt : n < l.length
      · have HT := hide (firstE_take (askE k) l n HF.out hlt E HE.out)
        have hk1 : wr.cell? ⟨b, o + n * 2, none⟩ = some (.string l[n].1) := by rw [HCC.out b _ (by omega), HW.out.cell (p := ⟨b, _, none⟩) hb]; exact (HC.out n hlt).1
        have hk2 : wr.cell? ⟨b, o + n * 2 + 1, none⟩ = some (.int .i64 l[n].2) := by rw [HCC.out b _ (by omega), HW.out.cell (p := ⟨b, _, none⟩) hb]; exact (HC.out n hlt).2
        generalize l[n] = x at *
        obtain ⟨f, y⟩ := x
        simp only at hk1 hk2
        by_cases h1 : chk filtF f = 0
        · have h1e : (chk filtF f != 0) = false := by simp [h1]
          have H1 := hide h1
          by_cases h2 : k = 10
          · by_cases h3 : y = 0
            · have HR := hide (HT.out.1 (by unfold askE; rw [if_neg (by simp [h1]), if_neg (by simp [h3]), if_neg (by simp [h3])]))
              have HQ : Hid (qosB y = true) := by show _ = _; simp [qosB, h3]
              have h2' : (k == 10) = true := by simp [h2]
              have h3' : (y != 0) = false := by simp [h3]
              clear h1 h2 h3
              go_wp2_with fail
              refine (filter_max f _ ((HM.out.below HB.out).alloc _)).mono ?_
              rintro e w1 ⟨rfl, hb1⟩
              have hd0 : w1.cell? ⟨w.heap.size, 0, none⟩ = some (.int .i64 k) := by rw [hb1.cell (p := ⟨w.heap.size, 0, none⟩) (by simp; omega), World.cell?_alloc_old _ _ _ (by show w.heap.size ≠ _; omega)]; exact hkk
              have hd1 : w1.cell? ⟨wr.heap.size, 1, none⟩ = some (.int .i64 y) := by rw [hb1.cell (p := ⟨wr.heap.size, 1, none⟩) (by simp)]; simp
              have HB1 := hide ((HB.out.alloc hs _).trans (hb1.mono (by simp; omega)))
              go_wp2_with (go_at_call 71; refine (isQos_any _ _).mono ?_; rintro e w' ⟨rfl, rfl⟩; rw [HQ.out])
              go_round
              case rel => exact ⟨n + 1, by omega, by go_num, HR, HB1.out⟩
              case measure => simp [intOf]; omega
            · have HR := hide (HT.out.2 (by unfold askE; rw [if_neg (by simp [h1]), if_pos ⟨h2, h3⟩]; decide))
              rw [show askE k (f, y) = 1 by unfold askE; rw [if_neg (by simp [h1]), if_pos ⟨h2, h3⟩]] at HR
              have h3' : (y != 0) = true := by simp [h3]
              have h2' : (k == 10) = true := by simp [h2]
              clear h1 h2 h3
              go_wp2_with fail
              refine (filter_max f _ ((HM.out.below HB.out).alloc _)).mono ?_
              rintro e w1 ⟨rfl, hb1⟩
              have hd0 : w1.cell? ⟨w.heap.size, 0, none⟩ = some (.int .i64 k) := by rw [hb1.cell (p := ⟨w.heap.size, 0, none⟩) (by simp; omega), World.cell?_alloc_old _ _ _ (by show w.heap.size ≠ _; omega)]; exact hkk
              have hd1 : w1.cell? ⟨wr.heap.size, 1, none⟩ = some (.int .i64 y) := by rw [hb1.cell (p := ⟨wr.heap.size, 1, none⟩) (by simp)]; simp
              have HB1 := hide ((HB.out.alloc hs _).trans (hb1.mono (by simp; omega)))
              go_wp2
              go_ret
              exact ⟨by rw [HR.out]; rfl, HW.out.trans (HB1.out.mono (by omega))⟩
          · have h2' : (k == 10) = false := by simp [h2]
            by_cases h3 : y = 0 ∨ y = 1
            · have HR := hide (HT.out.1 (by unfold askE; rw [if_neg (by simp [h1]), if_neg (by simp [h2]), if_neg (by simp [h3])]))
              have HQ : Hid (qosB y = true) := by show _ = _; simpa [qosB] using h3
              clear h1 h2 h3
              go_wp2_with fail
              refine (filter_max f _ ((HM.out.below HB.out).alloc _)).mono ?_
              rintro e w1 ⟨rfl, hb1⟩
              have hd0 : w1.cell? ⟨w.heap.size, 0, none⟩ = some (.int .i64 k) := by rw [hb1.cell (p := ⟨w.heap.size, 0, none⟩) (by simp; omega), World.cell?_alloc_old _ _ _ (by show w.heap.size ≠ _; omega)]; exact hkk
              have hd1 : w1.cell? ⟨wr.heap.size, 1, none⟩ = some (.int .i64 y) := by rw [hb1.cell (p := ⟨wr.heap.size, 1, none⟩) (by simp)]; simp
              have HB1 := hide ((HB.out.alloc hs _).trans (hb1.mono (by simp; omega)))
              go_wp2_with (go_at_call 71; refine (isQos_any _ _).mono ?_; rintro e w' ⟨rfl, rfl⟩; rw [HQ.out])
              go_round
              case rel => exact ⟨n + 1, by omega, by go_num, HR, HB1.out⟩
              case measure => simp [intOf]; omega
            · have HR := hide (HT.out.2 (by unfold askE; rw [if_neg (by simp [h1]), if_neg (by simp [h2]), if_pos h3]; decide))
              rw [show askE k (f, y) = 3 by unfold askE; rw [if_neg (by simp [h1]), if_neg (by simp [h2]), if_pos h3]] at HR
              have HQ : Hid (qosB y = false) := by show _ = _; simpa [qosB] using h3
              clear h1 h2 h3
              go_wp2_with fail
              refine (filter_max f _ ((HM.out.below HB.out).alloc _)).mono ?_
              rintro e w1 ⟨rfl, hb1⟩
              have hd0 : w1.cell? ⟨w.heap.size, 0, none⟩ = some (.int .i64 k) := by rw [hb1.cell (p := ⟨w.heap.size, 0, none⟩) (by simp; omega), World.cell?_alloc_old _ _ _ (by show w.heap.size ≠ _; omega)]; exact hkk
              have hd1 : w1.cell? ⟨wr.heap.size, 1, none⟩ = some (.int .i64 y) := by rw [hb1.cell (p := ⟨wr.heap.size, 1, none⟩) (by simp)]; simp
              have HB1 := hide ((HB.out.alloc hs _).trans (hb1.mono (by simp; omega)))
              go_wp2_with (go_at_call 71; refine (isQos_any _ _).mono ?_; rintro e w' ⟨rfl, rfl⟩; rw [HQ.out])
              go_ret
              exact ⟨by rw [HR.out]; rfl, HW.out.trans (HB1.out.mono (by omega))⟩
        · have h1e : (chk filtF f != 0) = true := by simp [h1]
          have HR := hide (HT.out.2 (by unfold askE; rw [if_pos h1]; exact h1))
          rw [show askE k (f, y) = chk filtF f by unfold askE; rw [if_pos h1]] at HR
          clear h1
          go_wp2_with fail
          refine (filter_max f _ ((HM.out.below HB.out).alloc _)).mono ?_
          rintro e w1 ⟨rfl, hb1⟩
          have hd0 : w1.cell? ⟨w.heap.size, 0, none⟩ = some (.int .i64 k) := by rw [hb1.cell (p := ⟨w.heap.size, 0, none⟩) (by simp; omega), World.cell?_alloc_old _ _ _ (by show w.heap.size ≠ _; omega)]; exact hkk
          have hd1 : w1.cell? ⟨wr.heap.size, 1, none⟩ = some (.int .i64 y) := by rw [hb1.cell (p := ⟨wr.heap.size, 1, none⟩) (by simp)]; simp
          have HB1 := hide ((HB.out.alloc hs _).trans (hb1.mono (by simp; omega)))
          go_wp2
          go_ret
          exact ⟨by rw [HR.out]; rfl, HW.out.trans (HB1.out.mono (by omega))⟩
      · have HR : Hid (E = 0) := by
          have h1 := HF.out
          rw [List.take_of_length_le (by omega)] at h1
          exact HE.out.symm.trans h1
        go_wp2
        go_ret
        exact ⟨by rw [HR.out]; rfl, HW.out.trans (HB.out.mono (by omega))⟩
  · rw [if_pos h0] at hE
    have h1 : (countE l.length != 0) = true := by simp [h0]
    have HE := hide hE.symm
    clear h0 hE
    go_enter Tryd.func73, Tryd.ntmps73
    go_wp2_with (go_at_call 76; refine (checkCount_any _ _).mono ?_; rintro e w' ⟨rfl, rfl⟩)
    go_ret
    exact ⟨by rw [HE.out]; rfl, (Below.refl _ _).alloc (Nat.le_refl _) _⟩
end Go.Proofs.YtnhcecgmcmcioaaDoor
/-
  packet.withoutNamed and isBare: what they answer.
-/
namespace Go.Proofs.YtnhcecgmcmcioaaDoor
open Go.RowKit Go.PlainAid

set_option maxHeartbeats 2000000 in
theorem isBare_any (p : Pk) (aa ac : Option Addr) (ca cc : Nat) (w : World) :
    Calls Tryd.prog 59 #[pkV p aa ca ac cc] w fun e w' => e = .returned (.bool (bareB p)) ∧ Below w.heap.size w w' := by
  obtain ⟨k, d, r, c, s, q, i, kp, cd, cl, tp, pl, sa, cs⟩ := p
  simp only [pkV, bareB]
  generalize sa.length = n1
  generalize cs.length = n2
  generalize g1 : (d || r || c || s) = b1
  generalize g2 : (q != 0 || i != 0 || kp != 0 || cd != 0) = b2
  generalize g3 : (!decide (cl = ⟨#[]⟩) || !decide (tp = ⟨#[]⟩) || !decide (pl = ⟨#[]⟩)) = b3
  generalize g4 : (decide (0 < n1) || decide (0 < n2)) = b4
  have G1 := hide g1
  have G2 := hide g2
  have G3 := hide g3
  have G4 := hide g4
  clear g1 g2 g3 g4
  go_enter Tryd.func59, Tryd.ntmps59
  go_upto_region 1 with fail
  go_cut [3] (fun x wr => x = .bool b1 ∧ wr = w.alloc (.cells #[.int .i64 k, .bool d, .bool r, .bool c, .bool s, .int .i64 q, .int .i64 i, .int .i64 kp, .int .i64 cd, .string cl, .string tp, .string pl, .slice aa n1 ca, .slice ac n2 cc] 57))
  case first =>
    cases d <;> cases r <;> cases c <;> cases s
    all_goals
      go_wp2_with fail
      go_meet
      case rel => exact ⟨congrArg Value.bool G1.out, rfl⟩
  case rest =>
    obtain ⟨rfl, rfl⟩ := hcut
    go_upto_region 2 with fail
    go_cut [4] (fun x wr => x = .bool b2 ∧ wr = w.alloc (.cells #[.int .i64 k, .bool d, .bool r, .bool c, .bool s, .int .i64 q, .int .i64 i, .int .i64 kp, .int .i64 cd, .string cl, .string tp, .string pl, .slice aa n1 ca, .slice ac n2 cc] 57))
    case first =>
      by_cases h1 : q = 0
      · subst h1
        by_cases h2 : i = 0
        · subst h2
          by_cases h3 : kp = 0
          · subst h3
            go_wp2_with fail
            go_meet
            case rel => exact ⟨by rw [← G2.out]; simp [*], rfl⟩
          · have e3 : (kp != 0) = true := by simp [h3]
            clear h3
            go_wp2_with fail
            go_meet
            case rel => exact ⟨by rw [← G2.out]; simp [*], rfl⟩
        · have e2 : (i != 0) = true := by simp [h2]
          clear h2
          go_wp2_with fail
          go_meet
          case rel => exact ⟨by rw [← G2.out]; simp [*], rfl⟩
      · have e1 : (q != 0) = true := by simp [h1]
        clear h1
        go_wp2_with fail
        go_meet
        case rel => exact ⟨by rw [← G2.out]; simp [*], rfl⟩
    case rest =>
      obtain ⟨rfl, rfl⟩ := hcut
      go_upto_region 3 with fail
      go_cut [5] (fun x wr => x = .bool b3 ∧ wr = w.alloc (.cells #[.int .i64 k, .bool d, .bool r, .bool c, .bool s, .int .i64 q, .int .i64 i, .int .i64 kp, .int .i64 cd, .string cl, .string tp, .string pl, .slice aa n1 ca, .slice ac n2 cc] 57))
      case first =>
        by_cases h1 : cl = ⟨#[]⟩
        · subst h1
          by_cases h2 : tp = ⟨#[]⟩
          · subst h2
            by_cases h3 : pl = ⟨#[]⟩
            · subst h3
              go_wp2_with fail
              go_meet
              case rel => exact ⟨by rw [← G3.out]; simp, rfl⟩
            · have e3 := txt_no (l := []) h3
              have H3 := hide h3
              clear h3
              go_wp2_with fail
              go_meet
              case rel => exact ⟨by rw [← G3.out]; simp [H3.out], rfl⟩
          · have e2 := txt_no (l := []) h2
            have H2 := hide h2
            clear h2
            go_wp2_with fail
            go_meet
            case rel => exact ⟨by rw [← G3.out]; simp [H2.out], rfl⟩
        · have e1 := txt_no (l := []) h1
          have H1 := hide h1
          clear h1
          go_wp2_with fail
          go_meet
          case rel => exact ⟨by rw [← G3.out]; simp [H1.out], rfl⟩
      case rest =>
        obtain ⟨rfl, rfl⟩ := hcut
        go_upto_region 4 with fail
        go_cut [6] (fun x wr => x = .bool b4 ∧ wr = w.alloc (.cells #[.int .i64 k, .bool d, .bool r, .bool c, .bool s, .int .i64 q, .int .i64 i, .int .i64 kp, .int .i64 cd, .string cl, .string tp, .string pl, .slice aa n1 ca, .slice ac n2 cc] 57))
        case first =>
          by_cases h1 : 0 < n1
          · have e1 : decide (0 < n1) = true := by simp [h1]
            clear h1
            go_wp2_with fail
            go_meet
            case rel => exact ⟨by rw [← G4.out]; simp [e1], rfl⟩
          · have e1 : decide (0 < n1) = false := by simp; omega
            clear h1
            go_wp2_with fail
            go_meet
            case rel => exact ⟨by rw [← G4.out]; simp [e1], rfl⟩
        case rest =>
          obtain ⟨rfl, rfl⟩ := hcut
          cases b1 <;> cases b2 <;> cases b3 <;> cases b4
          all_goals
            go_wp2
            go_ret
            exact ⟨rfl, (Below.refl _ _).alloc (Nat.le_refl _) _⟩
end Go.Proofs.YtnhcecgmcmcioaaDoor
