/-
  packet.checkWithId and Check: what they answer.
-/
import Derived.Test.YtnhcecgmcmcioaaDoorPacketAsks
import Derived.Test.YtnhcecgmcmcioaaDoorPacketNames
namespace Go.Proofs.YtnhcecgmcmcioaaDoor
open Go.RowKit Go.PlainAid

set_option maxHeartbeats 1000000 in
theorem checkWithId_any (p : Pk) (aa ac : Option Addr) (ca cc : Nat) (w : World) (hm : Max w) (ha : AsksIn w aa p.asks) (hi : IntsIn w ac p.codes) :
    Calls Tryd.prog 64 #[pkV p aa ca ac cc] w fun e w' => e = .returned (.int .i64 (withIdE p)) ∧ Below w.heap.size w w' := by
  generalize hE : withIdE p = E
  have hm := hide hm
  have HA := hide ha
  have HI := hide hi
  clear ha hi
  have HK : Hid (∀ (W : World), Max W → AsksIn W aa p.asks → Calls Tryd.prog 73 #[pkV p aa ca ac cc] W fun e w' => e = .returned (.int .i64 (asksE p)) ∧ Below W.heap.size W w') := fun W h1 h2 => checkAsks_any p aa ac ca cc W h1 h2
  simp only [withIdE] at hE
  by_cases h1 : idE p.id = 0
  · rw [if_neg (by simp [h1])] at hE
    by_cases h2 : p.kind = 8 ∨ p.kind = 10
    · rw [if_pos h2] at hE
      have HE := hide hE.symm
      obtain ⟨k, d, r, c, s, q, i, kp, cd, cl, tp, pl, l, cs⟩ := p
      simp only [pkV] at *
      have H1 := hide h1
      clear hE h1
      rcases h2 with h2 | h2
      · subst h2
        go_enter Tryd.func64, Tryd.ntmps64
        go_wp2_with (first | (go_at_call 72; refine (checkId_any _ _).mono ?_; rintro e w' ⟨rfl, rfl⟩; rw [H1.out]) | (go_at_call 73; refine (HK.out _ (hm.out.alloc _) (HA.out.alloc _)).mono ?_; rintro e w1 ⟨rfl, hb1⟩))
        go_ret
        exact ⟨by rw [HE.out]; rfl, below_step ((Below.refl _ _).alloc (Nat.le_refl _) _) hb1⟩
      · subst h2
        go_enter Tryd.func64, Tryd.ntmps64
        go_wp2_with (first | (go_at_call 72; refine (checkId_any _ _).mono ?_; rintro e w' ⟨rfl, rfl⟩; rw [H1.out]) | (go_at_call 73; refine (HK.out _ (hm.out.alloc _) (HA.out.alloc _)).mono ?_; rintro e w1 ⟨rfl, hb1⟩))
        go_ret
        exact ⟨by rw [HE.out]; rfl, below_step ((Below.refl _ _).alloc (Nat.le_refl _) _) hb1⟩
    · rw [if_neg h2] at hE
      by_cases h3 : p.kind = 9
      · rw [if_pos h3] at hE
        have HE := hide hE.symm
        obtain ⟨k, d, r, c, s, q, i, kp, cd, cl, tp, pl, l, cs⟩ := p
        simp only [pkV] at *
        have H1 := hide h1
        clear hE h1 h2
        subst h3
        go_enter Tryd.func64, Tryd.ntmps64
        go_wp2_with (first | (go_at_call 72; refine (checkId_any _ _).mono ?_; rintro e w' ⟨rfl, rfl⟩; rw [H1.out]) | (go_at_call 74; refine (checkCodes_any cs ac cc _ (HI.out.alloc _)).mono ?_; rintro e w1 ⟨rfl, rfl⟩))
        go_ret
        exact ⟨by rw [HE.out]; rfl, (Below.refl _ _).alloc (Nat.le_refl _) _⟩
      · rw [if_neg h3] at hE
        have HE := hide hE.symm
        have h8 : (p.kind == 8) = false := by simp; omega
        have h9 : (p.kind == 9) = false := by simp; omega
        have h10 : (p.kind == 10) = false := by simp; omega
        obtain ⟨k, d, r, c, s, q, i, kp, cd, cl, tp, pl, l, cs⟩ := p
        simp only [pkV] at *
        have H1 := hide h1
        clear hE h1 h2 h3
        go_enter Tryd.func64, Tryd.ntmps64
        go_wp2_with (go_at_call 72; refine (checkId_any _ _).mono ?_; rintro e w' ⟨rfl, rfl⟩; rw [H1.out])
        go_ret
        exact ⟨by rw [HE.out]; rfl, (Below.refl _ _).alloc (Nat.le_refl _) _⟩
  · rw [if_pos h1] at hE
    have h1' : (idE p.id != 0) = true := by simp [h1]
    have HE := hide hE.symm
    obtain ⟨k, d, r, c, s, q, i, kp, cd, cl, tp, pl, l, cs⟩ := p
    simp only [pkV] at *
    clear hE h1
    go_enter Tryd.func64, Tryd.ntmps64
    go_wp2_with (go_at_call 72; refine (checkId_any _ _).mono ?_; rintro e w' ⟨rfl, rfl⟩)
    go_ret
    exact ⟨by rw [HE.out]; rfl, (Below.refl _ _).alloc (Nat.le_refl _) _⟩

/-- a packet that may be held: its lists lie there -/
def PkIn (w : World) (p : Pk) (aa ac : Option Addr) : Prop := AsksIn w aa p.asks ∧ IntsIn w ac p.codes
theorem PkIn.below {w w' : World} {p : Pk} {aa ac : Option Addr} (h : PkIn w p aa ac) (hb : Below w.heap.size w w') : PkIn w' p aa ac := ⟨h.1.below hb, h.2.below hb⟩
theorem PkIn.alloc {w : World} {p : Pk} {aa ac : Option Addr} (h : PkIn w p aa ac) (o : Obj) : PkIn (w.alloc o) p aa ac := ⟨h.1.alloc o, h.2.alloc o⟩

set_option maxHeartbeats 2000000 in
theorem check_any (p : Pk) (aa ac : Option Addr) (ca cc : Nat) (w : World) (hm : Max w) (hp : PkIn w p aa ac) :
    Calls Tryd.prog 51 #[pkV p aa ca ac cc] w fun e w' => e = .returned (.int .i64 (chkP p)) ∧ Below w.heap.size w w' := by
  generalize hE : chkP p = E
  have hm := hide hm
  have HP := hide hp
  clear hp
  have C1 : Hid (∀ W, Calls Tryd.prog 61 #[pkV p aa ca ac cc] W fun e w' => e = .returned (.int .i64 (connectE p)) ∧ Below W.heap.size W w') := fun W => checkConnect_any p aa ac ca cc W
  have C2 : Hid (∀ W, Calls Tryd.prog 62 #[pkV p aa ca ac cc] W fun e w' => e = .returned (.int .i64 (connackE p)) ∧ Below W.heap.size W w') := fun W => checkConnack_any p aa ac ca cc W
  have C3 : Hid (∀ W, Max W → Calls Tryd.prog 63 #[pkV p aa ca ac cc] W fun e w' => e = .returned (.int .i64 (publishE p)) ∧ Below W.heap.size W w') := fun W h => checkPublish_any p aa ac ca cc W h
  have C4 : Hid (∀ W, Max W → PkIn W p aa ac → Calls Tryd.prog 64 #[pkV p aa ca ac cc] W fun e w' => e = .returned (.int .i64 (withIdE p)) ∧ Below W.heap.size W w') := fun W h k => checkWithId_any p aa ac ca cc W h k.1 k.2
  have C5 : Hid (∀ W, Calls Tryd.prog 60 #[pkV p aa ca ac cc] W fun e w' => ∃ aa' ca' ac' cc', e = .returned (pkV (wn p) aa' ca' ac' cc') ∧ Below W.heap.size W w') := fun W => withoutNamed_any p aa ac ca cc W
  have C6 : Hid (∀ W aa' ca' ac' cc', Calls Tryd.prog 59 #[pkV (wn p) aa' ca' ac' cc'] W fun e w' => e = .returned (.bool (bareB (wn p))) ∧ Below W.heap.size W w') := fun W aa' ca' ac' cc' => isBare_any (wn p) aa' ac' ca' cc' W
  simp only [chkP] at hE
  cases hk : kindB p.kind with
  | false =>
    rw [if_pos hk] at hE
    have HK := hide hk
    have HE := hide hE.symm
    clear hE hk C1 C2 C3 C4 C5 C6
    obtain ⟨k, d, r, c, s, q, i, kp, cd, cl, tp, pl, l, cs⟩ := p
    simp only [pkV] at *
    go_enter Tryd.func51, Tryd.ntmps51
    go_wp2_with (go_at_call 58; refine (isKind_any _ _).mono ?_; rintro e w' ⟨rfl, rfl⟩; rw [HK.out])
    go_ret
    exact ⟨by rw [HE.out]; rfl, (Below.refl _ _).alloc (Nat.le_refl _) _⟩
  | true =>
    rw [if_neg (by simp [hk])] at hE
    have HK := hide hk
    clear hk
    cases hb : bareB (wn p) with
    | false =>
      rw [if_pos hb] at hE
      have HB := hide hb
      have HE := hide hE.symm
      clear hE hb C1 C2 C3 C4
      revert C5 C6 HB
      generalize wn p = p'
      intro C5 C6 HB
      obtain ⟨k, d, r, c, s, q, i, kp, cd, cl, tp, pl, l, cs⟩ := p
      simp only [pkV] at *
      go_enter Tryd.func51, Tryd.ntmps51
      go_wp2_with (first | (go_at_call 58; refine (isKind_any _ _).mono ?_; rintro e w' ⟨rfl, rfl⟩; rw [HK.out]) | (go_at_call 60; refine (C5.out _).mono ?_; rintro e w1 ⟨a1, a2, a3, a4, rfl, hb1⟩) | (go_at_call 59; refine (C6.out _ _ _ _ _).mono ?_; rintro e w2 ⟨rfl, hb2⟩; rw [HB.out]))
      go_ret
      exact ⟨by rw [HE.out]; rfl, below_step (below_step ((Below.refl _ _).alloc (Nat.le_refl _) _) hb1) hb2⟩
    | true =>
      rw [if_neg (by simp [hb])] at hE
      have HB := hide hb
      clear hb
      by_cases h1 : p.kind = 1
      · rw [if_pos h1] at hE
        clear C2 C3 C4
        have HE := hide hE.symm
        clear hE 
        revert C5 C6 HB
        generalize wn p = p'
        intro C5 C6 HB
        obtain ⟨k, d, r, c, s, q, i, kp, cd, cl, tp, pl, l, cs⟩ := p
        simp only [pkV] at *
        subst h1
        go_enter Tryd.func51, Tryd.ntmps51
        go_wp2_with (first | (go_at_call 58; refine (isKind_any _ _).mono ?_; rintro e w' ⟨rfl, rfl⟩; rw [HK.out]) | (go_at_call 60; refine (C5.out _).mono ?_; rintro e w1 ⟨a1, a2, a3, a4, rfl, hb1⟩) | (go_at_call 59; refine (C6.out _ _ _ _ _).mono ?_; rintro e w2 ⟨rfl, hb2⟩; rw [HB.out]; obtain ⟨hc2, hf2⟩ := bcell (below_step hb1 hb2)) | (go_at_call 61; refine (C1.out _).mono ?_; rintro e w3 ⟨rfl, hb3⟩))
        go_ret
        exact ⟨by rw [HE.out]; rfl, below_step (below_step (below_step ((Below.refl _ _).alloc (Nat.le_refl _) _) hb1) hb2) hb3⟩
      · rw [if_neg h1] at hE
        by_cases h2 : p.kind = 2
        · rw [if_pos h2] at hE
          clear C1 C3 C4 h1
          have HE := hide hE.symm
          clear hE 
          revert C5 C6 HB
          generalize wn p = p'
          intro C5 C6 HB
          obtain ⟨k, d, r, c, s, q, i, kp, cd, cl, tp, pl, l, cs⟩ := p
          simp only [pkV] at *
          subst h2
          go_enter Tryd.func51, Tryd.ntmps51
          go_wp2_with (first | (go_at_call 58; refine (isKind_any _ _).mono ?_; rintro e w' ⟨rfl, rfl⟩; rw [HK.out]) | (go_at_call 60; refine (C5.out _).mono ?_; rintro e w1 ⟨a1, a2, a3, a4, rfl, hb1⟩) | (go_at_call 59; refine (C6.out _ _ _ _ _).mono ?_; rintro e w2 ⟨rfl, hb2⟩; rw [HB.out]; obtain ⟨hc2, hf2⟩ := bcell (below_step hb1 hb2)) | (go_at_call 62; refine (C2.out _).mono ?_; rintro e w3 ⟨rfl, hb3⟩))
          go_ret
          exact ⟨by rw [HE.out]; rfl, below_step (below_step (below_step ((Below.refl _ _).alloc (Nat.le_refl _) _) hb1) hb2) hb3⟩
        · rw [if_neg h2] at hE
          by_cases h3 : p.kind = 3
          · rw [if_pos h3] at hE
            clear C1 C2 C4 h1 h2
            have HE := hide hE.symm
            clear hE 
            revert C5 C6 HB
            generalize wn p = p'
            intro C5 C6 HB
            obtain ⟨k, d, r, c, s, q, i, kp, cd, cl, tp, pl, l, cs⟩ := p
            simp only [pkV] at *
            subst h3
            go_enter Tryd.func51, Tryd.ntmps51
            go_wp2_with (first | (go_at_call 58; refine (isKind_any _ _).mono ?_; rintro e w' ⟨rfl, rfl⟩; rw [HK.out]) | (go_at_call 60; refine (C5.out _).mono ?_; rintro e w1 ⟨a1, a2, a3, a4, rfl, hb1⟩) | (go_at_call 59; refine (C6.out _ _ _ _ _).mono ?_; rintro e w2 ⟨rfl, hb2⟩; rw [HB.out]; obtain ⟨hc2, hf2⟩ := bcell (below_step hb1 hb2)) | (go_at_call 63; refine (C3.out _ ((hm.out.alloc _).below (below_step hb1 hb2))).mono ?_; rintro e w3 ⟨rfl, hb3⟩))
            go_ret
            exact ⟨by rw [HE.out]; rfl, below_step (below_step (below_step ((Below.refl _ _).alloc (Nat.le_refl _) _) hb1) hb2) hb3⟩
          · rw [if_neg h3] at hE
            by_cases h4 : p.kind = 12 ∨ p.kind = 13 ∨ p.kind = 14
            · rw [if_pos h4] at hE
              clear C1 C2 C3 C4 h1 h2 h3
              have HE := hide hE.symm
              clear hE 
              revert C5 C6 HB
              generalize wn p = p'
              intro C5 C6 HB
              obtain ⟨k, d, r, c, s, q, i, kp, cd, cl, tp, pl, l, cs⟩ := p
              simp only [pkV] at *
              rcases h4 with rfl | rfl | rfl
              all_goals
                go_enter Tryd.func51, Tryd.ntmps51
                go_wp2_with (first | (go_at_call 58; refine (isKind_any _ _).mono ?_; rintro e w' ⟨rfl, rfl⟩; rw [HK.out]) | (go_at_call 60; refine (C5.out _).mono ?_; rintro e w1 ⟨a1, a2, a3, a4, rfl, hb1⟩) | (go_at_call 59; refine (C6.out _ _ _ _ _).mono ?_; rintro e w2 ⟨rfl, hb2⟩; rw [HB.out]; obtain ⟨hc2, hf2⟩ := bcell (below_step hb1 hb2)))
                go_ret
                exact ⟨by rw [HE.out]; rfl, below_step (below_step ((Below.refl _ _).alloc (Nat.le_refl _) _) hb1) hb2⟩
            · rw [if_neg h4] at hE
              have e1 : (p.kind == 1) = false := by simp; omega
              have e2 : (p.kind == 2) = false := by simp; omega
              have e3 : (p.kind == 3) = false := by simp; omega
              have e12 : (p.kind == 12) = false := by simp; omega
              have e13 : (p.kind == 13) = false := by simp; omega
              have e14 : (p.kind == 14) = false := by simp; omega
              clear C1 C2 C3 h1 h2 h3 h4
              have HE := hide hE.symm
              clear hE 
              revert C5 C6 HB
              generalize wn p = p'
              intro C5 C6 HB
              obtain ⟨k, d, r, c, s, q, i, kp, cd, cl, tp, pl, l, cs⟩ := p
              simp only [pkV] at *
              skip
              go_enter Tryd.func51, Tryd.ntmps51
              go_wp2_with (first | (go_at_call 58; refine (isKind_any _ _).mono ?_; rintro e w' ⟨rfl, rfl⟩; rw [HK.out]) | (go_at_call 60; refine (C5.out _).mono ?_; rintro e w1 ⟨a1, a2, a3, a4, rfl, hb1⟩) | (go_at_call 59; refine (C6.out _ _ _ _ _).mono ?_; rintro e w2 ⟨rfl, hb2⟩; rw [HB.out]; obtain ⟨hc2, hf2⟩ := bcell (below_step hb1 hb2)) | (go_at_call 64; refine (C4.out _ ((hm.out.alloc _).below (below_step hb1 hb2)) ((HP.out.alloc _).below (below_step hb1 hb2))).mono ?_; rintro e w3 ⟨rfl, hb3⟩))
              go_ret
              exact ⟨by rw [HE.out]; rfl, below_step (below_step (below_step ((Below.refl _ _).alloc (Nat.le_refl _) _) hb1) hb2) hb3⟩
end Go.Proofs.YtnhcecgmcmcioaaDoor
