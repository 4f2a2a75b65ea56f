/-
  What was put in is read: plain facts on options (no program in it).
-/
import Derived.Test.YtgmjdelgocbcaacDoorOptBare
import Derived.Laws.Bits64b
namespace Go.Proofs.YtgmjdelgocbcaacDoor
open Go.RowKit Go.PlainAid

theorem joined_lv : ∀ x : List UInt8, Lib.join (lvL x) [47] = x := by
  intro x
  induction x with
  | nil => rw [lvL, Lib.join_one]
  | cons c r ih =>
    rw [lvL]
    split
    · rename_i h
      subst h
      rw [Lib.join_cons]
      cases hr : lvL r with
      | nil => exact absurd hr (lvL_ne r)
      | cons a t =>
        rw [hr, Lib.join_cons] at ih
        simp only [Lib.joinTail, List.map_cons, List.flatten_cons, List.nil_append, List.cons_append] at ih ⊢
        rw [ih]
    · cases hr : lvL r with
      | nil => exact absurd hr (lvL_ne r)
      | cons a t =>
        rw [hr, Lib.join_cons] at ih
        simp only
        rw [Lib.join_cons, List.cons_append, ih]
theorem joinS_LV (s : ByteArray) : joinS (LV s) = s := by
  unfold joinS LV
  rw [List.map_map]
  have e : ((fun x : ByteArray => x.data.toList) ∘ fun l : List UInt8 => (⟨l.toArray⟩ : ByteArray)) = id := by funext l; rfl
  rw [e, List.map_id, joined_lv]
theorem count_LV (s : ByteArray) : (Lib.countByte s.data.toList 47 : Int) = (LV s).length - 1 := by
  have h := LV_length s
  have hc : Lib.countB s ⟨#[47]⟩ = s.data.toList.count 47 := Lib.count_one 47 _
  show ((s.data.toList.count 47 : Nat) : Int) = _
  omega
theorem wp_ok {m : Mg} {x : ByteArray} (h : wpE m x = 0) : chkM m = 0 ∧ chk nameF x = 0 ∧ wpM m x = withM m 11 (LV x) ∧ chkM (withM m 11 (LV x)) = 0 := by
  unfold wpE at h
  by_cases h1 : chkM m = 0
  · rw [if_neg (by simp [h1])] at h
    by_cases h2 : chk nameF x = 0
    · rw [if_neg (by simp [h2])] at h
      refine ⟨h1, h2, ?_, h⟩
      rw [wpM, if_neg (by simp [h1]), if_neg (by simp [h2]), chkdM, if_pos h]
    · rw [if_pos h2] at h; exact absurd h h2
  · rw [if_pos h1] at h; exact absurd h h1
theorem path_with {m : Mg} {x : ByteArray} (h : wpE m x = 0) : pathE (wpM m x) = 0 ∧ pathS (wpM m x) = x := by
  obtain ⟨_, h2, h3, h4⟩ := wp_ok h
  have hv : valsL (withM m 11 (LV x)).opts 11 = LV x := vals_with m.opts 11 (LV x)
  have e : pathE (wpM m x) = 0 := by
    rw [h3, pathE, if_neg (by simp [h4]), hv, pthE, if_neg, joinS_LV, if_neg (by simp [h2]), if_neg (by simp [count_LV])]
    unfold LV
    intro e
    exact lvL_ne _ (List.map_eq_nil_iff.1 e)
  refine ⟨e, ?_⟩
  rw [pathS, if_pos e, h3, hv, joinS_LV]
theorem bareG_with {m : Mg} (n : Int) (vs : List ByteArray) (h : chkM m = 0) : bareG (withM m n vs) n = bareG m n := by
  have e : bareL (withL m.opts n vs) n = bareL m.opts n := bare_with m.opts n vs (chkM_ok h).2.2.2.2.2.2
  simp only [bareG, withM, e]
theorem bareG_len {m : Mg} (n : Int) (h : chkM m = 0) : (bareG m n).opts.length ≤ 12 := Nat.le_trans (List.length_filter_le _ _) (chkM_ok h).2.2.2.2.1
theorem and_eight (x : Int) (h0 : 0 ≤ x) (h1 : x < 9223372036854775808) : bits BinOp.and IntKind.i64 x 8 = 8 * (x / 8 % 2) := by
  obtain ⟨a, rfl⟩ := Int.eq_ofNat_of_zero_le h0
  have h2 : (BitVec.ofInt 64 (a : Int)).toNat = a := by
    rw [BitVec.ofInt_natCast, BitVec.toNat_ofNat]; exact Nat.mod_eq_of_lt (by omega)
  have h3 : (BitVec.ofInt 64 (8 : Int)).toNat = 8 := by decide
  have h4 : a &&& 8 = 8 * (a / 8 % 2) := by
    have e1 := Nat.and_mod_two_pow (a := a) (b := 8) (n := 4)
    have e2 : a &&& 8 ≤ 8 := Nat.and_le_right
    have e3 : (a &&& 8) % 2 ^ 4 = a &&& 8 := Nat.mod_eq_of_lt (by omega)
    have e4 : ∀ r : Nat, r < 16 → r &&& 8 = 8 * (r / 8 % 2) := by decide
    have e5 := e4 (a % 16) (by omega)
    rw [e3] at e1
    rw [e1]
    show a % 16 &&& 8 = _
    rw [e5]; omega
  show IntKind.i64.wrap ((BitVec.ofInt 64 (a : Int) &&& BitVec.ofInt 64 (8 : Int)).toNat : Int) = _
  rw [BitVec.toNat_and, h2, h3, h4]
  have h5 : IntKind.i64.wrap ((8 * (a / 8 % 2) : Nat) : Int) = ((8 * (a / 8 % 2) : Nat) : Int) := wrap_i64_in _ (by omega) (by omega)
  rw [h5]
  omega
theorem blk_back {n : Int} (more : Bool) {z : Int} (h : isB n z = true) : blkN (blkX n more z) = n ∧ blkM (blkX n more z) = more ∧ blkZ (blkX n more z) = z := by
  simp only [isB, Bool.and_eq_true, decide_eq_true_eq] at h
  obtain ⟨⟨⟨h1, h2⟩, h3⟩, h4⟩ := h
  cases more
  · have e : blkX n false z = n * 16 + z := by simp [blkX]
    rw [e]
    refine ⟨by unfold blkN; omega, ?_, by unfold blkZ; omega⟩
    unfold blkM
    rw [and_eight _ (by omega) (by omega)]
    have : (n * 16 + z) / 8 % 2 = 0 := by omega
    rw [this]; rfl
  · have e : blkX n true z = n * 16 + z + 8 := by simp [blkX]
    rw [e]
    refine ⟨by unfold blkN; omega, ?_, by unfold blkZ; omega⟩
    unfold blkM
    rw [and_eight _ (by omega) (by omega)]
    have : (n * 16 + z + 8) / 8 % 2 = 1 := by omega
    rw [this]; rfl
theorem wb_ok {m : Mg} {n : Int} {more : Bool} {z : Int} (h : wbE m n more z = 0) : chkM m = 0 ∧ isB n z = true ∧ wuE m 23 (blkX n more z) = 0 ∧ wbM m n more z = wuM m 23 (blkX n more z) := by
  unfold wbE at h
  by_cases h1 : chkM m = 0
  · rw [if_neg (by simp [h1])] at h
    by_cases h2 : isB n z = true
    · rw [if_neg (by simp [h2])] at h
      refine ⟨h1, h2, h, ?_⟩
      rw [wbM, if_neg (by simp [h1]), if_neg (by simp [h2])]
    · rw [if_pos (by simpa using h2)] at h; simp at h
  · rw [if_pos h1] at h; exact absurd h h1
theorem wb_bad {m : Mg} {n : Int} {more : Bool} {z : Int} (h : wbE m n more z ≠ 0) : wbM m n more z = zMg := by
  unfold wbE at h
  by_cases h1 : chkM m = 0
  · rw [if_neg (by simp [h1])] at h
    by_cases h2 : isB n z = true
    · rw [if_neg (by simp [h2])] at h
      rw [wbM, if_neg (by simp [h1]), if_neg (by simp [h2])]
      exact wu_bad h
    · rw [wbM, if_neg (by simp [h1]), if_pos (by simpa using h2)]
  · rw [wbM, if_pos h1]
theorem block_with {m : Mg} {n : Int} {more : Bool} {z : Int} (h : wbE m n more z = 0) : blockE (wbM m n more z) = 0 ∧ blockV (wbM m n more z) = bkV n more z := by
  obtain ⟨_, h2, h3, h4⟩ := wb_ok h
  obtain ⟨u1, u2⟩ := uint_with h3
  obtain ⟨b1, b2, b3⟩ := blk_back more h2
  have e : blockE (wbM m n more z) = 0 := by
    rw [h4, blockE, if_neg (by simp [u1]), u2, okB, b1, b3, if_pos h2]
  refine ⟨e, ?_⟩
  rw [blockV, if_pos e, h4, u2, b1, b2, b3]
/-- each way of putting in leaves the others -/
theorem wp_bare {m : Mg} {x : ByteArray} (h : wpE m x = 0) : bareG (wpM m x) 11 = bareG m 11 ∧ (wpM m x).opts.length ≤ 12 := by
  obtain ⟨h1, _, h3, h4⟩ := wp_ok h
  rw [h3]; exact ⟨bareG_with 11 _ h1, (chkM_ok h4).2.2.2.2.1⟩
theorem wu_bare {m : Mg} {n a : Int} (h : wuE m n a = 0) : bareG (wuM m n a) n = bareG m n ∧ (wuM m n a).opts.length ≤ 12 := by
  obtain ⟨h1, _, _, h3, h4⟩ := wu_ok h
  rw [h3]; exact ⟨bareG_with n _ h1, (chkM_ok h4).2.2.2.2.1⟩
theorem wb_bare {m : Mg} {n : Int} {more : Bool} {z : Int} (h : wbE m n more z = 0) : bareG (wbM m n more z) 23 = bareG m 23 ∧ (wbM m n more z).opts.length ≤ 12 := by
  obtain ⟨_, _, h3, h4⟩ := wb_ok h
  rw [h4]; exact wu_bare h3
end Go.Proofs.YtgmjdelgocbcaacDoor
