/-
  packet.writer's packet: what it writes; packet.first.
-/
import Derived.Test.YtgmjdelgocbcaabDoorWriterKinds
import Derived.Deep.QuietTactic
import Derived.BigQuiet
namespace Go.Proofs.YtgmjdelgocbcaabDoor
open Go.RowKit Go.PlainAid

/-- what stands behind a packet's first byte and length -/
def bodyS (p : Pk) : ByteArray :=
  if p.kind = 1 then connectS p else if p.kind = 2 then numsS 1 [flagN p.session 1, p.code] else if p.kind = 3 then publishS p
  else if p.kind = 12 ∨ p.kind = 13 ∨ p.kind = 14 then ⟨#[]⟩ else withIdS p
/-- a packet's first byte -/
def firstN (p : Pk) : Int :=
  if p.kind = 3 then p.kind * 16 + (flagN p.dup 8 + p.qos * 2 + flagN p.retain 1) else if p.kind = 8 ∨ p.kind = 10 then p.kind * 16 + 2 else p.kind * 16

theorem flagN_le (b : Bool) (n : Int) (h : 0 ≤ n) : 0 ≤ flagN b n ∧ flagN b n ≤ n := by cases b <;> simp [flagN, h]

set_option maxHeartbeats 2000000 in
theorem wpacket_any (N b : Nat) (p : Pk) (aa ac : Option Addr) (ca cc : Nat) (w : World) (h : Bd N b ⟨#[]⟩ w) (hN : N ≤ w.heap.size) (hpl : p.payload.size ≤ 200) (hla : p.asks.length ≤ 5) (hlc : p.codes.length ≤ 5)
    (hA : p.asks = [] ∨ ∃ ib o, aa = some ⟨ib, o, none⟩ ∧ Safe N b w ib ∧ ib < w.heap.size ∧ ∀ i (h : i < p.asks.length), w.cell? ⟨ib, o + i * 2, none⟩ = some (.string p.asks[i].1) ∧ w.cell? ⟨ib, o + i * 2 + 1, none⟩ = some (.int .i64 p.asks[i].2))
    (hI : p.codes = [] ∨ ∃ ib o, ac = some ⟨ib, o, none⟩ ∧ Safe N b w ib ∧ ib < w.heap.size ∧ ∀ i (h : i < p.codes.length), w.cell? ⟨ib, o + i, none⟩ = some (.int .i64 p.codes[i])) :
    Calls Tryd.prog 19 #[.pointer (some ⟨b, 0, none⟩), pkV p aa ca ac cc] w fun e w' => e = .returned (.tuple #[]) ∧ Bd N b (bodyS p) w' ∧ KeptN N b w w' := by
  have HBD := hide h
  have hb := h.lt
  clear h
  generalize hP : bodyS p = P
  simp only [bodyS] at hP
  by_cases h1 : p.kind = 1
  · rw [if_pos h1] at hP
    have C : Hid (∀ W, Bd N b ⟨#[]⟩ W → N ≤ W.heap.size → Calls Tryd.prog 48 #[.pointer (some ⟨b, 0, none⟩), pkV p aa ca ac cc] W fun e w' => e = .returned (.tuple #[]) ∧ Bd N b P w' ∧ KeptN N b W w') := fun W x y => by rw [← hP]; exact wconnect_any N b p aa ac ca cc W x y
    clear hP hA hI hpl hla hlc
    obtain ⟨k, d, r, c, s, q, i, kp, cd, cl, tp, pl, l, cs⟩ := p
    simp only [pkV] at *
    subst h1
    go_enter Tryd.func19, Tryd.ntmps19
    go_wp2_with fail
    refine (C.out _ (HBD.out.below ((Below.refl _ _).alloc (Nat.le_refl _) _)) (by simp; omega)).mono ?_
    rintro e w1 ⟨rfl, hbd1, hk1⟩
    have HF := hide (And.intro hbd1 ((KeptN.of_below ((Below.refl _ w).alloc (Nat.le_refl _) _) hN).trans hk1))
    clear hbd1 hk1
    go_wp2
    go_end0
    exact ⟨rfl, HF.out⟩
  · rw [if_neg h1] at hP
    by_cases h2 : p.kind = 2
    · rw [if_pos h2] at hP
      have HP := hide hP.symm
      clear hP hA hI hpl hla hlc h1
      obtain ⟨k, d, r, c, s, q, i, kp, cd, cl, tp, pl, l, cs⟩ := p
      simp only [pkV] at *
      subst h2
      go_enter Tryd.func19, Tryd.ntmps19
      go_wp2_with fail
      go_region_with (first | (go_at_call 49; refine (flag_any _ _ _).mono ?_; rintro e w' ⟨rfl, rfl⟩) | (go_at_call 22; refine (numbers_any N b _ 1 [flagN s 1, cd] _ 2 _ ((HBD.out.below (Below.drew ((Below.refl _ _).alloc (Nat.le_refl _) _))).below ((Below.refl _ _).alloc (Nat.le_refl _) _)) (by simp; omega) (by decide) (by simp) (ints_two N b _ _ _ _ (by simp) (by simp; omega))).mono ?_; rintro e w1 ⟨rfl, hbd1, hk1⟩))
      all_goals
        rw [str_nil] at hbd1
        have HF := hide (And.intro hbd1 (((KeptN.of_below (Below.drew ((Below.refl _ w).alloc (Nat.le_refl _) _)) hN).trans (KeptN.of_below ((Below.refl _ _).alloc (Nat.le_refl _) _) (by simp; omega))).trans hk1))
        clear hbd1 hk1
        go_wp2
        go_end0
        exact ⟨rfl, by rw [HP.out]; exact HF.out.1, HF.out.2⟩
    · rw [if_neg h2] at hP
      by_cases h3 : p.kind = 3
      · rw [if_pos h3] at hP
        have C : Hid (∀ W, Bd N b ⟨#[]⟩ W → N ≤ W.heap.size → Calls Tryd.prog 50 #[.pointer (some ⟨b, 0, none⟩), pkV p aa ca ac cc] W fun e w' => e = .returned (.tuple #[]) ∧ Bd N b P w' ∧ KeptN N b W w') := fun W x y => by rw [← hP]; exact wpublish_any N b p aa ac ca cc W x y hpl
        clear hP hA hI hpl hla hlc h1 h2
        obtain ⟨k, d, r, c, s, q, i, kp, cd, cl, tp, pl, l, cs⟩ := p
        simp only [pkV] at *
        subst h3
        go_enter Tryd.func19, Tryd.ntmps19
        go_wp2_with fail
        refine (C.out _ (HBD.out.below ((Below.refl _ _).alloc (Nat.le_refl _) _)) (by simp; omega)).mono ?_
        rintro e w1 ⟨rfl, hbd1, hk1⟩
        have HF := hide (And.intro hbd1 ((KeptN.of_below ((Below.refl _ w).alloc (Nat.le_refl _) _) hN).trans hk1))
        clear hbd1 hk1
        go_wp2
        go_end0
        exact ⟨rfl, HF.out⟩
      · rw [if_neg h3] at hP
        by_cases h4 : p.kind = 12 ∨ p.kind = 13 ∨ p.kind = 14
        · rw [if_pos h4] at hP
          have HP := hide hP.symm
          clear hP hA hI hpl hla hlc h1 h2 h3
          obtain ⟨k, d, r, c, s, q, i, kp, cd, cl, tp, pl, l, cs⟩ := p
          simp only [pkV] at *
          rcases h4 with rfl | rfl | rfl
          all_goals
            go_enter Tryd.func19, Tryd.ntmps19
            go_wp2
            go_end0
            exact ⟨rfl, by rw [HP.out]; exact HBD.out.below ((Below.refl _ _).alloc (Nat.le_refl _) _), KeptN.of_below ((Below.refl _ w).alloc (Nat.le_refl _) _) hN⟩
        · rw [if_neg h4] at hP
          have e1 : (p.kind == 1) = false := by simp; omega
          have e2 : (p.kind == 2) = false := by simp; omega
          have e3 : (p.kind == 3) = false := by simp; omega
          have e12 : (p.kind == 12) = false := by simp; omega
          have e13 : (p.kind == 13) = false := by simp; omega
          have e14 : (p.kind == 14) = false := by simp; omega
          have C : Hid (∀ W, Bd N b ⟨#[]⟩ W → Below w.heap.size w W → Calls Tryd.prog 51 #[.pointer (some ⟨b, 0, none⟩), pkV p aa ca ac cc] W fun e w' => e = .returned (.tuple #[]) ∧ Bd N b P w' ∧ KeptN N b W w') := fun W x y => by
            rw [← hP]
            have hk : KeptN N b w W := KeptN.of_below y hN
            have hs := y.size
            refine wwithId_any N b p aa ac ca cc W x (by omega) hla hlc ?_ ?_
            · rcases hA with h0 | ⟨ib, o, g0, g1, g2, g3⟩
              · exact .inl h0
              · exact .inr ⟨ib, o, g0, g1.kept hk, by omega, fun i hi => by rw [Safe.cell (p := ⟨ib, _, none⟩) g1 hk, Safe.cell (p := ⟨ib, _, none⟩) g1 hk]; exact g3 i hi⟩
            · rcases hI with h0 | ⟨ib, o, g0, g1, g2, g3⟩
              · exact .inl h0
              · exact .inr ⟨ib, o, g0, g1.kept hk, by omega, fun i hi => by rw [Safe.cell (p := ⟨ib, _, none⟩) g1 hk]; exact g3 i hi⟩
          clear hP hA hI hpl hla hlc h1 h2 h3 h4
          obtain ⟨k, d, r, c, s, q, i, kp, cd, cl, tp, pl, l, cs⟩ := p
          simp only [pkV] at *
          go_enter Tryd.func19, Tryd.ntmps19
          go_wp2_with fail
          refine (C.out _ (HBD.out.below ((Below.refl _ _).alloc (Nat.le_refl _) _)) ((Below.refl _ _).alloc (Nat.le_refl _) _)).mono ?_
          rintro e w1 ⟨rfl, hbd1, hk1⟩
          have HF := hide (And.intro hbd1 ((KeptN.of_below ((Below.refl _ w).alloc (Nat.le_refl _) _) hN).trans hk1))
          clear hbd1 hk1
          go_wp2
          go_end0
          exact ⟨rfl, HF.out⟩

set_option maxHeartbeats 2000000 in
theorem first_any (p : Pk) (aa ac : Option Addr) (ca cc : Nat) (w : World) (hk : 0 ≤ p.kind ∧ p.kind ≤ 15) (hq : 0 ≤ p.qos ∧ p.qos ≤ 1) :
    Calls Tryd.prog 23 #[pkV p aa ca ac cc] w fun e w' => e = .returned (.int .i64 (firstN p)) ∧ Below w.heap.size w w' := by
  generalize hE : firstN p = E
  obtain ⟨k, d, r, c, s, q, i, kp, cd, cl, tp, pl, l, cs⟩ := p
  simp only [firstN] at hE
  simp only [pkV]
  simp only at hk hq
  have hd := flagN_le d 8 (by omega)
  have hr := flagN_le r 1 (by omega)
  by_cases h3 : k = 3
  · rw [if_pos h3] at hE
    have HE := hide hE.symm
    clear hE
    subst h3
    go_enter Tryd.func23, Tryd.ntmps23
    go_wp2_with fail
    go_quiet ((go_at_call 49; exact Calls.quiet_of_same (flag_any _ _ _)))
    go_wp2
    go_ret
    exact ⟨by rw [HE.out]; rfl, ((Below.refl _ _).alloc (Nat.le_refl _) _).trans ⟨rfl, rfl, rfl, Nat.le_refl _, fun _ _ => rfl⟩⟩
  · rw [if_neg h3] at hE
    have e3 : (k == 3) = false := by simp [h3]
    by_cases h8 : k = 8 ∨ k = 10
    · rw [if_pos h8] at hE
      have HE := hide hE.symm
      clear hE h3 e3
      rcases h8 with rfl | rfl
      all_goals
        go_enter Tryd.func23, Tryd.ntmps23
        go_wp2
        go_ret
        exact ⟨by rw [HE.out]; rfl, (Below.refl _ _).alloc (Nat.le_refl _) _⟩
    · rw [if_neg h8] at hE
      have HE := hide hE.symm
      have e8 : (k == 8) = false := by simp; omega
      have e10 : (k == 10) = false := by simp; omega
      clear hE h3 h8
      go_enter Tryd.func23, Tryd.ntmps23
      go_wp2
      go_ret
      exact ⟨by rw [HE.out]; rfl, (Below.refl _ _).alloc (Nat.le_refl _) _⟩
end Go.Proofs.YtgmjdelgocbcaabDoor
