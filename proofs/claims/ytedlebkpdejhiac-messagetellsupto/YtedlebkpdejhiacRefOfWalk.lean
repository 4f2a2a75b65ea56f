/-
  dragomanref.MessageOf: what it answers (bytes of no great size).
-/
import Derived.Test.YtedlebkpdejhiacRefHalf
import Derived.Test.YtedlebkpdejhiacRefCheck
import Derived.Test.YtedlebkpdejhiacMsgDec
import Derived.Deep.RegionHeld3
namespace Go.Proofs.Ytedlebkpdejhiac
open Go.RowKit Go.PlainAid

theorem amB_or (l : ByteArray) (t : Int) (bad : Bool) : amB l t bad = (bad || amB l t false) := by
  unfold amB tkB
  split
  · rfl
  · split
    · rfl
    · rfl
theorem tkB_or (l : ByteArray) (k : Nat) (bad : Bool) : tkB l k bad = (bad || tkB l k false) := rfl
theorem bt_lf (s : ByteArray) (k : Nat) (h : k < s.size) : bt (lf s k) 0 = bt s k := by
  rw [bt_nu, nu_lf, if_pos (by omega), bt_getD]; simp [beN]
/-- an option from a place on: what the parts tell -/
theorem o_at {s : ByteArray} {k : Nat} (h : k < s.size) : nu (lf s k) 1 = bt s k ∧ oL1 (lf s k) = lf s (k + 1) ∧ tkB (lf s k) 1 false = false := by
  refine ⟨by rw [← bt_nu, bt_lf s k h], tkL_lf s k 1 (by omega), ?_⟩
  rw [tkB_lf s k 1 (by omega), decide_eq_false (by omega)]; rfl
theorem o_bad1 {s : ByteArray} {k : Nat} (h : k < s.size) (hb : amB (lf s (k + 1)) (bt s k / 16) false = true) : oBad (lf s k) false = true := by
  obtain ⟨e1, e2, e3⟩ := o_at h
  unfold oBad
  rw [e1, e2, e3, hb, amB_or _ _ true, tkB_or]; simp
theorem o_bad2 {s : ByteArray} {k k2 : Nat} (h : k < s.size) (ha : amB (lf s (k + 1)) (bt s k / 16) false = false) (hL : amL (lf s (k + 1)) (bt s k / 16) = lf s k2) (hb : amB (lf s k2) (bt s k % 16) false = true) : oBad (lf s k) false = true := by
  obtain ⟨e1, e2, e3⟩ := o_at h
  have e4 : oL2 (lf s k) = lf s k2 := by unfold oL2; rw [e1, e2, hL]
  unfold oBad
  rw [e4, e1, e2, e3, ha, hb, tkB_or]; simp
theorem o_parts {s : ByteArray} {k k2 k3 : Nat} (h : k < s.size) (ha : amB (lf s (k + 1)) (bt s k / 16) false = false) (hL : amL (lf s (k + 1)) (bt s k / 16) = lf s k2) (hb : amB (lf s k2) (bt s k % 16) false = false) (hL2 : amL (lf s k2) (bt s k % 16) = lf s k3) (hk3 : k3 ≤ s.size) :
    oMore (lf s k) = am (lf s (k + 1)) (bt s k / 16) ∧ oMany (lf s k) = am (lf s k2) (bt s k % 16) ∧ oL3 (lf s k) = lf s k3 ∧ oBad (lf s k) false = decide (s.size < k3 + (am (lf s k2) (bt s k % 16)).toNat) := by
  obtain ⟨e1, e2, e3⟩ := o_at h
  have e4 : oL2 (lf s k) = lf s k2 := by unfold oL2; rw [e1, e2, hL]
  have e5 : oMany (lf s k) = am (lf s k2) (bt s k % 16) := by unfold oMany; rw [e4, e1]
  have e6 : oL3 (lf s k) = lf s k3 := by unfold oL3; rw [e4, e1, hL2]
  refine ⟨by unfold oMore; rw [e1, e2], e5, e6, ?_⟩
  unfold oBad
  rw [e6, e5, e4, e1, e2, e3, ha, hb, tkB_lf s k3 _ hk3]; rfl

theorem m_at {s : ByteArray} (h4 : 4 ≤ s.size) : nu s 1 = bt s 0 ∧ nu (mL1 s) 1 = bt s 1 ∧ nu (mL2 s) 2 = 256 * bt s 2 + bt s 3 ∧ mL3 s = lf s 4 ∧ mB4 s = decide (s.size < 4 + (bt s 0 % 16).toNat) := by
  have e0 : nu s 1 = bt s 0 := (bt_nu s).symm
  have l0 : lf s 0 = s := pre_all s
  have l1 : mL1 s = lf s 1 := by have := tkL_lf s 0 1 (by omega); rw [l0] at this; exact this
  have l2 : mL2 s = lf s 2 := by unfold mL2; rw [l1, tkL_lf s 1 1 (by omega)]
  have l3 : mL3 s = lf s 4 := by unfold mL3; rw [l2, tkL_lf s 2 2 (by omega)]
  have b1 : tkB s 1 false = false := by rw [tkB, decide_eq_false (by omega)]; rfl
  refine ⟨e0, ?_, ?_, l3, ?_⟩
  · rw [l1, nu_lf, if_pos (by omega), bt_getD]; simp [beN]
  · rw [l2, nu_lf, if_pos (by omega), bt_getD, bt_getD]; simp [beN]
  · unfold mB4
    rw [l3, l2, l1, e0, b1, tkB_lf s 1 1 (by omega), tkB_lf s 2 2 (by omega), tkB_lf s 4 _ (by omega), decide_eq_false (by omega), decide_eq_false (by omega)]; rfl

theorem of_short {s : ByteArray} (h : s.size < 4) : decME s = 1 ∧ decM s = zeroMg := by
  have hb : mB4 s = true := by
    unfold mB4 mL3 mL2 mL1
    have a1 := tkL_size s 1
    have a2 := tkL_size (tkL s 1) 1
    cases hx : tkB (tkL (tkL s 1) 1) 2 (tkB (tkL s 1) 1 (tkB s 1 false)) with
    | true => rw [tkB_or]; rfl
    | false =>
      obtain ⟨x1, _, _, x4⟩ := tk_forth hx
      obtain ⟨y1, _, _, y4⟩ := tk_forth x1
      obtain ⟨_, _, _, z4⟩ := tk_forth y1
      omega
  have hof : ofM s = none := by unfold ofM; rw [if_neg (by rw [hb]; simp)]
  have h1 : decME s = 1 := by rw [← (of_dec s).1]; unfold ofE; rw [hof]
  exact ⟨h1, by unfold decM; rw [if_neg (by rw [h1]; decide)]⟩
theorem of_form {s : ByteArray} (h4 : 4 ≤ s.size) (h : bt s 0 / 64 ≠ 1 ∨ 8 < bt s 0 % 16 ∨ (s.size : Int) < 4 + bt s 0 % 16) : decME s = 1 ∧ decM s = zeroMg := by
  obtain ⟨e1, e2, e3, e4, e5⟩ := m_at h4
  have b0 := bt_nonneg s 0
  have b1 := bt_le s 0
  have hof : ofM s = none := by
    unfold ofM
    rw [if_neg]
    rintro ⟨hf, hb⟩
    rw [e1] at hf
    rw [e5] at hb
    simp only [fstB, Bool.and_eq_true, decide_eq_true_eq] at hf
    simp only [decide_eq_false_iff_not] at hb
    omega
  have h1 : decME s = 1 := by rw [← (of_dec s).1]; unfold ofE; rw [hof]
  exact ⟨h1, by unfold decM; rw [if_neg (by rw [h1]; decide)]⟩
/-- .. and where those are right it hangs on the options and the payload -/
theorem of_rest {s : ByteArray} (h4 : 4 ≤ s.size) (h : ¬ (bt s 0 / 64 ≠ 1 ∨ 8 < bt s 0 % 16 ∨ (s.size : Int) < 4 + bt s 0 % 16)) :
    ofM s = (xOpts ((lf s (4 + (bt s 0 % 16).toNat)).size + 1) (lf s (4 + (bt s 0 % 16).toNat)) 0 []).map fun r => ⟨bt s 0 / 16 % 4, bt s 1, 256 * bt s 2 + bt s 3, s.extract 4 (4 + (bt s 0 % 16).toNat), r.1, r.2⟩ := by
  obtain ⟨e1, e2, e3, e4, e5⟩ := m_at h4
  have b0 := bt_nonneg s 0
  have b1 := bt_le s 0
  have hl4 : mL4 s = lf s (4 + (bt s 0 % 16).toNat) := by unfold mL4; rw [e4, e1, tkL_lf s 4 _ (by omega)]
  unfold ofM
  rw [if_pos ⟨by rw [e1]; simp only [fstB, Bool.and_eq_true, decide_eq_true_eq]; omega, by rw [e5]; simp; omega⟩, hl4, e2, e3, e4, e1, tk_lf s 4 _ (by omega), show (bt s 0 - 64) / 16 = bt s 0 / 16 % 4 by omega]
end Go.Proofs.Ytedlebkpdejhiac
