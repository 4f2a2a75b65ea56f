/-
  Plain facts on messages whose options of a number are others now (no program in it).
-/
import Derived.Test.YtgmjdelgocbcaacDoorOptWithBlock
import Derived.Test.YtgmjdelgocbcaacDoorOptBlock
import Derived.Test.YtgmjdelgocbcaacDoorOptWithPath
namespace Go.Proofs.YtgmjdelgocbcaacDoor
open Go.RowKit Go.PlainAid

theorem filter_lt_with (l : List Op2) (n : Int) (vs : List ByteArray) : (withL l n vs).filter (fun o => decide (o.1 < n)) = l.filter (fun o => decide (o.1 < n)) := by
  unfold withL
  rw [List.filter_append, List.filter_append, List.filter_filter, List.filter_filter]
  have h1 : (vs.map (fun v => (n, v))).filter (fun o : Op2 => decide (o.1 < n)) = [] := by
    rw [List.filter_eq_nil_iff]; intro o ho; obtain ⟨v, _, rfl⟩ := List.mem_map.1 ho; simp
  have h2 : l.filter (fun o => decide (o.1 < n) && decide (n < o.1)) = [] := by
    rw [List.filter_eq_nil_iff]; intro o _; simp; omega
  rw [h1, h2, List.append_nil, List.append_nil]
  congr 1; funext o; simp
theorem filter_gt_with (l : List Op2) (n : Int) (vs : List ByteArray) : (withL l n vs).filter (fun o => decide (n < o.1)) = l.filter (fun o => decide (n < o.1)) := by
  unfold withL
  rw [List.filter_append, List.filter_append, List.filter_filter, List.filter_filter]
  have h1 : (vs.map (fun v => (n, v))).filter (fun o : Op2 => decide (n < o.1)) = [] := by
    rw [List.filter_eq_nil_iff]; intro o ho; obtain ⟨v, _, rfl⟩ := List.mem_map.1 ho; simp
  have h2 : l.filter (fun o => decide (n < o.1) && decide (o.1 < n)) = [] := by
    rw [List.filter_eq_nil_iff]; intro o _; simp; omega
  rw [h1, h2, List.append_nil, List.nil_append]
  congr 1; funext o; simp
theorem withL_again (l : List Op2) (n : Int) (u v : List ByteArray) : withL (withL l n u) n v = withL l n v := by
  rw [withL, filter_lt_with, filter_gt_with]; rfl
theorem withM_again (m : Mg) (n : Int) (u v : List ByteArray) : withM (withM m n u) n v = withM m n v := by
  unfold withM; simp only [withL_again]
theorem vals_with (l : List Op2) (n : Int) (vs : List ByteArray) : valsL (withL l n vs) n = vs := by
  unfold valsL withL
  rw [List.filter_append, List.filter_append, List.filter_filter, List.filter_filter]
  have h1 : (vs.map (fun v => (n, v))).filter (fun o : Op2 => decide (o.1 = n)) = vs.map (fun v => (n, v)) := by
    rw [List.filter_eq_self]; intro o ho; obtain ⟨v, _, rfl⟩ := List.mem_map.1 ho; simp
  have h2 : l.filter (fun o => decide (o.1 = n) && decide (o.1 < n)) = [] := by
    rw [List.filter_eq_nil_iff]; intro o _; simp; omega
  have h3 : l.filter (fun o => decide (o.1 = n) && decide (n < o.1)) = [] := by
    rw [List.filter_eq_nil_iff]; intro o _; simp; omega
  rw [h1, h2, h3, List.append_nil, List.nil_append, List.map_map]
  exact List.map_id _
/-- options that stand in order: those below, and those above -/
theorem sorted_parts : ∀ (l : List Op2) (a n : Int), optsE a l = 0 → l.filter (fun o => !decide (o.1 = n)) = l.filter (fun o => decide (o.1 < n)) ++ l.filter (fun o => decide (n < o.1)) := by
  have above : ∀ (l : List Op2) (a n : Int), optsE a l = 0 → n < a → ∀ o ∈ l, n < o.1 := by
    intro l
    induction l with
    | nil => intro a n _ _ o ho; cases ho
    | cons x l ih =>
      intro a n h hn o ho
      rw [optsE] at h
      split at h
      · simp at h
      · split at h
        · simp at h
        · split at h
          · simp at h
          · cases ho with
            | head => omega
            | tail _ ho => exact ih x.1 n h (by omega) o ho
  intro l
  induction l with
  | nil => intro a n _; rfl
  | cons x l ih =>
    intro a n h
    rw [optsE] at h
    split at h
    · simp at h
    · split at h
      · simp at h
      · split at h
        · simp at h
        · have hi := ih x.1 n h
          by_cases h1 : x.1 < n
          · rw [List.filter_cons_of_pos (by simp; omega), List.filter_cons_of_pos (by simp; omega), List.filter_cons_of_neg (by simp; omega), hi]; rfl
          · by_cases h2 : x.1 = n
            · rw [List.filter_cons_of_neg (by simp; omega), List.filter_cons_of_neg (by simp; omega), List.filter_cons_of_neg (by simp; omega), hi]
            · have hab := above l x.1 n h (by omega)
              have h0 : l.filter (fun o => decide (o.1 < n)) = [] := by
                rw [List.filter_eq_nil_iff]; intro o ho; have := hab o ho; simp; omega
              rw [List.filter_cons_of_pos (by simp; omega), List.filter_cons_of_neg (by simp; omega), List.filter_cons_of_pos (by simp; omega), hi, h0]; rfl
theorem bare_with (l : List Op2) (n : Int) (vs : List ByteArray) (h : optsE 0 l = 0) : (withL l n vs).filter (fun o => !decide (o.1 = n)) = l.filter (fun o => !decide (o.1 = n)) := by
  rw [sorted_parts l 0 n h]
  unfold withL
  rw [List.filter_append, List.filter_append, List.filter_filter, List.filter_filter]
  have h1 : (vs.map (fun v => (n, v))).filter (fun o : Op2 => !decide (o.1 = n)) = [] := by
    rw [List.filter_eq_nil_iff]; intro o ho; obtain ⟨v, _, rfl⟩ := List.mem_map.1 ho; simp
  have h2 : (fun o : Op2 => !decide (o.1 = n) && decide (o.1 < n)) = fun o => decide (o.1 < n) := by
    funext o; rw [Bool.eq_iff_iff]; simp; omega
  have h3 : (fun o : Op2 => !decide (o.1 = n) && decide (n < o.1)) = fun o => decide (n < o.1) := by
    funext o; rw [Bool.eq_iff_iff]; simp; omega
  rw [h1, h2, h3, List.append_nil]

theorem wu_ok {m : Mg} {n a : Int} (h : wuE m n a = 0) : chkM m = 0 ∧ 0 ≤ a ∧ a ≤ 16777215 ∧ wuM m n a = withM m n [shortS a] ∧ chkM (withM m n [shortS a]) = 0 := by
  unfold wuE at h
  by_cases h1 : chkM m = 0
  · rw [if_neg (by simp [h1])] at h
    by_cases h2 : a < 0 ∨ 16777215 < a
    · rw [if_pos h2] at h; simp at h
    · rw [if_neg h2] at h
      refine ⟨h1, by omega, by omega, ?_, h⟩
      rw [wuM, if_neg (by simp [h1]), if_neg h2, chkdM, if_pos h]
  · rw [if_pos h1] at h; exact absurd h h1
theorem wu_bad {m : Mg} {n a : Int} (h : wuE m n a ≠ 0) : wuM m n a = zMg := by
  unfold wuE at h
  by_cases h1 : chkM m = 0
  · rw [if_neg (by simp [h1])] at h
    by_cases h2 : a < 0 ∨ 16777215 < a
    · rw [wuM, if_neg (by simp [h1]), if_pos h2]
    · rw [if_neg h2] at h
      rw [wuM, if_neg (by simp [h1]), if_neg h2, chkdM, if_neg h]
  · rw [wuM, if_pos h1]
theorem wu_again {m : Mg} {n a : Int} (h : wuE m n a = 0) (b : Int) : wuM (wuM m n a) n b = wuM m n b ∧ wuE (wuM m n a) n b = wuE m n b := by
  obtain ⟨h1, _, _, h2, h3⟩ := wu_ok h
  rw [h2]
  constructor
  · simp only [wuM, h1, h3, withM_again]
  · simp only [wuE, h1, h3, withM_again]
/-- where the first one of that number stands -/
theorem with_first (l : List Op2) (n : Int) (s : ByteArray) : ∃ P : Nat, ∃ hP : P < (withL l n [s]).length, (withL l n [s])[P] = (n, s) ∧ ∀ j (hj : j < P), (withL l n [s])[j].1 < n := by
  have e : withL l n [s] = l.filter (fun o => decide (o.1 < n)) ++ ((n, s) :: l.filter (fun o => decide (n < o.1))) := by simp [withL]
  refine ⟨(l.filter (fun o => decide (o.1 < n))).length, by rw [e]; simp, ?_, fun j hj => ?_⟩
  · simp only [e]; rw [List.getElem_append_right (Nat.le_refl _)]; simp
  · simp only [e]
    rw [List.getElem_append_left hj]
    have := List.mem_filter.1 (List.getElem_mem hj)
    simpa using this.2

/-- a byte -/
def by8 (x : Int) : UInt8 := UInt8.ofNat x.toNat
theorem by8_nat {x : Int} (h0 : 0 ≤ x) (h1 : x < 256) : (by8 x).toNat = x.toNat := by
  unfold by8; rw [UInt8.toNat_ofNat']; omega
theorem by8_zero {x : Int} (h0 : 0 ≤ x) (h1 : x < 256) : (by8 x == 0) = decide (x = 0) := by
  rw [Bool.eq_iff_iff, beq_iff_eq, decide_eq_true_eq]
  constructor
  · intro h; have := by8_nat h0 h1; rw [h] at this; simp at this; omega
  · intro h; subst h; rfl
theorem short_spec (a : Int) (h0 : 0 ≤ a) (h1 : a ≤ 16777215) :
    (a = 0 ∧ shortS a = ⟨#[]⟩) ∨ ((0 < a ∧ a < 256) ∧ shortS a = ⟨#[by8 a]⟩) ∨ ((256 ≤ a ∧ a < 65536) ∧ shortS a = ⟨#[by8 (a / 256), by8 (a % 256)]⟩) ∨ (65536 ≤ a ∧ shortS a = ⟨#[by8 (a / 256 / 256), by8 (a / 256 % 256), by8 (a % 256)]⟩) := by
  have hn : numE a 3 = 0 := numE_ok (by omega) (by show ¬ (a < 0 ∨ (256 : Int) ^ 3 ≤ a); omega)
  have e : (numS a 3).data.toList = [by8 (a / 256 / 256 % 256), by8 (a / 256 % 256), by8 (a % 256)] := by rw [numS_ok hn]; rfl
  have e1 : a / 256 / 256 % 256 = a / 256 / 256 := by omega
  unfold shortS Lib.trimLeftB
  rw [e, e1]
  have z2 := by8_zero (x := a / 256 / 256) (by omega) (by omega)
  have z1 := by8_zero (x := a / 256 % 256) (by omega) (by omega)
  have z0 := by8_zero (x := a % 256) (by omega) (by omega)
  by_cases c2 : a / 256 / 256 = 0
  · rw [decide_eq_true c2] at z2
    by_cases c1 : a / 256 % 256 = 0
    · rw [decide_eq_true c1] at z1
      by_cases c0 : a % 256 = 0
      · rw [decide_eq_true c0] at z0
        exact .inl ⟨by omega, by simp only [List.dropWhile, z2, z1, z0]⟩
      · rw [decide_eq_false c0] at z0
        refine .inr (.inl ⟨by omega, ?_⟩)
        have : a % 256 = a := by omega
        simp only [List.dropWhile, z2, z1, z0]; rw [this]
    · rw [decide_eq_false c1] at z1
      refine .inr (.inr (.inl ⟨by omega, ?_⟩))
      have : a / 256 % 256 = a / 256 := by omega
      simp only [List.dropWhile, z2, z1]; rw [this]
  · rw [decide_eq_false c2] at z2
    exact .inr (.inr (.inr ⟨by omega, by simp only [List.dropWhile, z2]⟩))
theorem short_size {a : Int} (h0 : 0 ≤ a) (h1 : a ≤ 16777215) : (shortS a).size = if a = 0 then 0 else if a < 256 then 1 else if a < 65536 then 2 else 3 := by
  rcases short_spec a h0 h1 with ⟨h, e⟩ | ⟨h, e⟩ | ⟨h, e⟩ | ⟨h, e⟩
  · rw [e, if_pos h]; rfl
  · rw [e, if_neg (by omega), if_pos (by omega)]; rfl
  · rw [e, if_neg (by omega), if_neg (by omega), if_pos (by omega)]; rfl
  · rw [e, if_neg (by omega), if_neg (by omega), if_neg (by omega)]; rfl
theorem short_back {a : Int} (h0 : 0 ≤ a) (h1 : a ≤ 16777215) : (shortS a).size ≤ 3 ∧ (beN (shortS a) 0 (shortS a).size : Int) = a := by
  rcases short_spec a h0 h1 with ⟨h, e⟩ | ⟨h, e⟩ | ⟨h, e⟩ | ⟨h, e⟩
  · rw [e]; subst h; exact ⟨by decide, rfl⟩
  · rw [e]
    have g0 := by8_nat (x := a) (by omega) (by omega)
    refine ⟨Nat.le_of_ble_eq_true rfl, ?_⟩
    show ((256 * 0 + (by8 a).toNat : Nat) : Int) = a
    rw [g0]; omega
  · rw [e]
    have g0 := by8_nat (x := a % 256) (by omega) (by omega)
    have g1 := by8_nat (x := a / 256) (by omega) (by omega)
    refine ⟨Nat.le_of_ble_eq_true rfl, ?_⟩
    show ((256 * (256 * 0 + (by8 (a / 256)).toNat) + (by8 (a % 256)).toNat : Nat) : Int) = a
    rw [g0, g1]; omega
  · rw [e]
    have g0 := by8_nat (x := a % 256) (by omega) (by omega)
    have g1 := by8_nat (x := a / 256 % 256) (by omega) (by omega)
    have g2 := by8_nat (x := a / 256 / 256) (by omega) (by omega)
    refine ⟨Nat.le_of_ble_eq_true rfl, ?_⟩
    show ((256 * (256 * (256 * 0 + (by8 (a / 256 / 256)).toNat) + (by8 (a / 256 % 256)).toNat) + (by8 (a % 256)).toNat : Nat) : Int) = a
    rw [g0, g1, g2]; omega
/-- what was put in is read -/
theorem uint_with {m : Mg} {n a : Int} (h : wuE m n a = 0) : uintE (wuM m n a) n = 0 ∧ uintN (wuM m n a) n = a := by
  obtain ⟨h1, ha0, ha1, h2, h3⟩ := wu_ok h
  have hv : valsL (withM m n [shortS a]).opts n = [shortS a] := vals_with m.opts n [shortS a]
  obtain ⟨g1, g2⟩ := short_back ha0 ha1
  rw [h2]
  unfold uintE uintN
  rw [hv, if_neg (by simp [h3]), if_neg (by simp [h3]), frsE, frsN, if_neg (by omega), if_neg (by omega)]
  exact ⟨rfl, g2⟩
end Go.Proofs.YtgmjdelgocbcaacDoor
