/-
  Which filter is for all that another one is for: plain facts (no walk in it).
-/
import Derived.Test.YtcldjoklkbbbgadDoorTopicPlainWalk
namespace Go.Proofs.YtcldjoklkbbbgadDoor
open Go.RowKit Go.PlainAid

theorem takes_refl (F : List ByteArray) : takes F F = true := by
  induction F with
  | nil => rfl
  | cons x F ih =>
    by_cases h : x = ⟨#[35]⟩
    · exact takes_hash _ _ h
    · rw [takes_cons x F F h, if_neg h, if_neg (fun e => e.2 rfl), ih]

/-- what a filter that takes in says of the first levels -/
theorem takes_inv {x : ByteArray} {F O : List ByteArray} (h : x ≠ ⟨#[35]⟩) (ht : takes (x :: F) O = true) : ∃ y O', O = y :: O' ∧ y ≠ ⟨#[35]⟩ ∧ (x = ⟨#[43]⟩ ∨ x = y) ∧ takes F O' = true := by
  cases O with
  | nil => rw [takes_nil F h] at ht; cases ht
  | cons y O =>
    rw [takes_cons y F O h] at ht
    by_cases hy : y = ⟨#[35]⟩
    · rw [if_pos hy] at ht; cases ht
    · rw [if_neg hy] at ht
      by_cases hc : x ≠ ⟨#[43]⟩ ∧ x ≠ y
      · rw [if_pos hc] at ht; cases ht
      · rw [if_neg hc] at ht
        refine ⟨y, O, rfl, hy, ?_, ht⟩
        by_cases hp : x = ⟨#[43]⟩
        · exact .inl hp
        · by_cases hxy : x = y
          · exact .inr hxy
          · exact absurd ⟨hp, hxy⟩ hc
theorem takes_mk {x y : ByteArray} {F O : List ByteArray} (h : x ≠ ⟨#[35]⟩) (hy : y ≠ ⟨#[35]⟩) (hc : x = ⟨#[43]⟩ ∨ x = y) (ht : takes F O = true) : takes (x :: F) (y :: O) = true := by
  rw [takes_cons y F O h, if_neg hy, if_neg (fun e => hc.elim e.1 e.2), ht]

theorem takes_trans (A : List ByteArray) : ∀ B C : List ByteArray, takes A B = true → takes B C = true → takes A C = true := by
  induction A with
  | nil =>
    intro B C h k
    cases B with
    | nil => exact k
    | cons y B => cases h
  | cons x A ih =>
    intro B C h k
    by_cases hx : x = ⟨#[35]⟩
    · exact takes_hash _ _ hx
    · obtain ⟨y, B', rfl, hy, hc, ht⟩ := takes_inv hx h
      obtain ⟨z, C', rfl, hz, hd, hu⟩ := takes_inv hy k
      refine takes_mk hx hz ?_ (ih B' C' ht hu)
      rcases hc with hc | hc
      · exact .inl hc
      · subst hc; exact hd

/-- the levels of a topic, or of a spelled filter: a # is never ahead, nor alone behind an empty level; nor is the empty level alone -/
def Good (C : List ByteArray) : Prop := ∃ z C', C = z :: C' ∧ z ≠ ⟨#[35]⟩ ∧ (z = ⟨#[]⟩ → ∃ y C'', C' = y :: C'' ∧ y ≠ ⟨#[35]⟩)

theorem spell_takes {b : ByteArray} {C : List ByteArray} (hg : Good C) (h : takes (LV b) C = true) : takes (LV (spell b)) C = true := by
  obtain ⟨z, C', rfl, hz, he⟩ := hg
  unfold spell
  by_cases h1 : b = ⟨#[35]⟩
  · rw [if_pos h1, show LV ⟨#[43, 47, 35]⟩ = [⟨#[43]⟩, ⟨#[35]⟩] by decide +kernel]
    exact takes_mk (by decide) hz (.inl rfl) (takes_hash _ _ rfl)
  · rw [if_neg h1]
    by_cases h2 : b = ⟨#[47, 35]⟩
    · subst h2
      rw [if_pos rfl, show LV ⟨#[47, 43, 47, 35]⟩ = [⟨#[]⟩, ⟨#[43]⟩, ⟨#[35]⟩] by decide +kernel]
      rw [show LV ⟨#[47, 35]⟩ = [⟨#[]⟩, ⟨#[35]⟩] by decide +kernel] at h
      obtain ⟨y, O', e, hy, hc, _⟩ := takes_inv (by decide) h
      obtain ⟨rfl, rfl⟩ := List.cons.inj e
      have hz0 : (⟨#[]⟩ : ByteArray) = z := hc.elim (fun e => absurd e (by decide)) id
      obtain ⟨u, C'', rfl, hu⟩ := he hz0.symm
      exact takes_mk (by decide) hz (.inr hz0) (takes_mk (by decide) hu (.inl rfl) (takes_hash _ _ rfl))
    · rw [if_neg h2]; exact h

theorem takes_through {a b : ByteArray} {C : List ByteArray} (hg : Good C) (h : takes (LV a) (LV (spell b)) = true) (k : takes (LV b) C = true) : takes (LV a) C = true :=
  takes_trans _ _ _ h (spell_takes hg k)

theorem LV_ne (s : ByteArray) : LV s ≠ [] := by
  unfold LV; intro h; exact lvL_ne _ (List.map_eq_nil_iff.1 h)
theorem LV_empty : LV ⟨#[]⟩ = [⟨#[]⟩] := by decide +kernel

theorem good_name {s : ByteArray} (h : chk nameF s = 0) : Good (LV s) := by
  have hp := name_levels h
  cases e : LV s with
  | nil => exact absurd e (LV_ne s)
  | cons z C =>
    rw [e] at hp
    refine ⟨z, C, rfl, plain_hash (hp z (List.mem_cons_self ..)), fun hz => ?_⟩
    cases C with
    | nil =>
      have : s = ⟨#[]⟩ := LV_inj (by rw [e, hz, LV_empty])
      have h0 := (chk_ok h).2.1
      rw [this] at h0; exact absurd h0 (by decide)
    | cons y C => exact ⟨y, C, rfl, plain_hash (hp y (by simp))⟩

theorem hash_last {s : ByteArray} (h : chk filtF s = 0) (k : Nat) (hk : k < (LV s).length) (e : (LV s)[k] = ⟨#[35]⟩) : k + 1 = (LV s).length := by
  have := okTo_all (Nat.le_refl _) (chk_ok h).2.2.2 k hk hk
  rw [e] at this
  by_cases hl : (k + 1 == (LV s).length) = true
  · simpa using hl
  · have hl2 : (k + 1 == (LV s).length) = false := by simpa using hl
    rw [hl2] at this
    exact absurd this (by decide +kernel)

theorem good_spell {s : ByteArray} (h : chk filtF s = 0) : Good (LV (spell s)) := by
  unfold spell
  by_cases h1 : s = ⟨#[35]⟩
  · rw [if_pos h1, show LV ⟨#[43, 47, 35]⟩ = [⟨#[43]⟩, ⟨#[35]⟩] by decide +kernel]
    exact ⟨_, _, rfl, by decide, fun e => absurd e (by decide)⟩
  · rw [if_neg h1]
    by_cases h2 : s = ⟨#[47, 35]⟩
    · rw [if_pos h2, show LV ⟨#[47, 43, 47, 35]⟩ = [⟨#[]⟩, ⟨#[43]⟩, ⟨#[35]⟩] by decide +kernel]
      exact ⟨_, _, rfl, by decide, fun _ => ⟨_, _, rfl, by decide⟩⟩
    · rw [if_neg h2]
      have hl := hash_last h
      cases e : LV s with
      | nil => exact absurd e (LV_ne s)
      | cons z C =>
        rw [e] at hl
        refine ⟨z, C, rfl, fun hz => ?_, fun hz => ?_⟩
        · have := hl 0 (by simp) hz
          have hC : C = [] := by simp at this; exact this
          subst hC
          exact h1 (LV_inj (by rw [e, hz]; decide +kernel))
        · cases C with
          | nil =>
            have : s = ⟨#[]⟩ := LV_inj (by rw [e, hz, LV_empty])
            have h0 := (chk_ok h).2.1
            rw [this] at h0; exact absurd h0 (by decide)
          | cons y C =>
            refine ⟨y, C, rfl, fun hy => ?_⟩
            have := hl 1 (by simp) hy
            have hC : C = [] := by simp at this; exact this
            subst hC
            exact h2 (LV_inj (by rw [e, hz, hy]; decide +kernel))

theorem covB_ok {a b : ByteArray} (ha : chk filtF a = 0) (hb : chk filtF b = 0) : covB a b = takes (LV a) (LV (spell b)) := by simp [covB, ha, hb]
theorem covE_ok {a b : ByteArray} (ha : chk filtF a = 0) : covE a b = chk filtF b := if_pos ha
theorem matchB_ok {a b : ByteArray} (ha : chk filtF a = 0) (hb : chk nameF b = 0) : matchB a b = takes (LV a) (LV b) := by simp [matchB, ha, hb]
theorem matchE_ok {a b : ByteArray} (ha : chk filtF a = 0) : matchE a b = chk nameF b := if_pos ha
theorem cov_no {a b : ByteArray} (h : covE a b ≠ 0) : covB a b = false := by
  unfold covE at h
  by_cases ha : chk filtF a = 0
  · rw [if_pos ha] at h; simp [covB, h]
  · simp [covB, ha]
theorem cov_both {a b : ByteArray} (h : covE a b = 0) : chk filtF a = 0 ∧ chk filtF b = 0 := by
  unfold covE at h
  by_cases ha : chk filtF a = 0
  · rw [if_pos ha] at h; exact ⟨ha, h⟩
  · rw [if_neg ha] at h; exact absurd h ha

theorem spell_self (a : ByteArray) : takes (LV a) (LV (spell a)) = true := by
  unfold spell
  by_cases h1 : a = ⟨#[35]⟩
  · rw [if_pos h1, h1]; exact hash_takes _
  · rw [if_neg h1]
    by_cases h2 : a = ⟨#[47, 35]⟩
    · rw [if_pos h2, h2]; decide +kernel
    · rw [if_neg h2]; exact takes_refl _
theorem cov_self {a : ByteArray} (ha : chk filtF a = 0) : covB a a = true := by
  rw [covB_ok ha ha]; exact spell_self a

theorem cov_match {a b n : ByteArray} (ha : chk filtF a = 0) (hb : chk filtF b = 0) (hx : covB a b = true) (hn : matchB b n = true) : matchB a n = true := by
  have hnm : chk nameF n = 0 := by
    unfold matchB at hn
    rw [Bool.and_eq_true, Bool.and_eq_true] at hn
    exact of_decide_eq_true hn.1.2
  rw [covB_ok ha hb] at hx
  rw [matchB_ok hb hnm] at hn
  rw [matchB_ok ha hnm]
  exact takes_through (good_name hnm) hx hn
theorem cov_cov {a b c : ByteArray} (ha : chk filtF a = 0) (hb : chk filtF b = 0) (hx : covB a b = true) (hy : covB b c = true) : covB a c = true := by
  have hc : chk filtF c = 0 := by
    unfold covB at hy
    rw [Bool.and_eq_true, Bool.and_eq_true] at hy
    exact of_decide_eq_true hy.1.2
  rw [covB_ok ha hb] at hx
  rw [covB_ok hb hc] at hy
  rw [covB_ok ha hc]
  exact takes_through (good_spell hc) hx hy
end Go.Proofs.YtcldjoklkbbbgadDoor
