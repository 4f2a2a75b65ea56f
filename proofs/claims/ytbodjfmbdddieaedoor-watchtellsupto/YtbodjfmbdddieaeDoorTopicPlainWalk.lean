/-
  The walk of dragomanlaw.TopicPlain: it answers true, whatever it is handed.
-/
import Derived.Test.YtbodjfmbdddieaeDoorTopicMore
namespace Go.Proofs.YtbodjfmbdddieaeDoor
open Go.RowKit Go.PlainAid

theorem okTo_all {p : ByteArray → Bool → Bool} {l : List ByteArray} {m : Nat} : ∀ {n : Nat}, n ≤ l.length → okTo p l m n = true → ∀ k, (h : k < n) → (hl : k < l.length) → p l[k] (k + 1 == m) = true
  | 0, _, _, _, h, _ => by omega
  | n + 1, hn, ho, k, h, hl => by
    rw [okTo, Bool.and_eq_true] at ho
    by_cases e : k = n
    · subst e
      have := ho.2
      rwa [List.getD_eq_getElem?_getD, List.getElem?_eq_getElem hl] at this
    · exact okTo_all (by omega) ho.1 k (by omega) hl
theorem okTo_mk {p : ByteArray → Bool → Bool} {l : List ByteArray} {m : Nat} : ∀ {n : Nat}, n ≤ l.length → (∀ k, (h : k < n) → (hl : k < l.length) → p l[k] (k + 1 == m) = true) → okTo p l m n = true
  | 0, _, _ => rfl
  | n + 1, hn, h => by
    rw [okTo, okTo_mk (by omega) (fun k hk hl => h k (by omega) hl), Bool.true_and, List.getD_eq_getElem?_getD, List.getElem?_eq_getElem (by omega)]
    exact h n (by omega) (by omega)

theorem chk_mk {p : ByteArray → Bool → Bool} {s : ByteArray} (h1 : s.size ≤ 60) (h0 : 0 < s.size) (h2 : (LV s).length ≤ 6) (h3 : okTo p (LV s) (LV s).length (LV s).length = true) : chk p s = 0 := by
  rw [chk, if_neg (by omega), if_neg (by omega), if_neg (by omega), if_pos h3]

theorem name_levels {a : ByteArray} (h : chk nameF a = 0) : ∀ x ∈ LV a, plain x = true := by
  intro x hx
  obtain ⟨k, hk, rfl⟩ := List.mem_iff_getElem.1 hx
  exact okTo_all (Nat.le_refl _) (chk_ok h).2.2.2 k hk hk

theorem name_filter {a : ByteArray} (h : chk nameF a = 0) : chk filtF a = 0 := by
  obtain ⟨h1, h0, h2, h3⟩ := chk_ok h
  refine chk_mk h1 h0 h2 (okTo_mk (Nat.le_refl _) fun k _ hl => ?_)
  have := name_levels h (LV a)[k] (List.getElem_mem _)
  simp [filtF, this]

theorem plain_hash {x : ByteArray} (h : plain x = true) : x ≠ ⟨#[35]⟩ := fun e => by subst e; revert h; decide +kernel
theorem plain_plus {x : ByteArray} (h : plain x = true) : x ≠ ⟨#[43]⟩ := fun e => by subst e; revert h; decide +kernel

theorem takes_plain {F O : List ByteArray} (hF : ∀ x ∈ F, plain x = true) (hO : ∀ x ∈ O, plain x = true) : takes F O = decide (F = O) := by
  induction F generalizing O with
  | nil => cases O <;> simp [takes]
  | cons x F ih =>
    have hx := plain_hash (hF x (List.mem_cons_self ..))
    cases O with
    | nil => rw [takes_nil F hx]; simp
    | cons y O =>
      rw [takes_cons y F O hx, if_neg (plain_hash (hO y (List.mem_cons_self ..)))]
      by_cases e : x = y
      · rw [if_neg (fun h => h.2 e), ih (fun z hz => hF z (List.mem_cons_of_mem _ hz)) (fun z hz => hO z (List.mem_cons_of_mem _ hz))]
        simp [e]
      · rw [if_pos ⟨plain_plus (hF x (List.mem_cons_self ..)), e⟩]
        simp [e]

/-- levels, one behind the other -/
def joinL : List (List UInt8) → List UInt8
  | [] => []
  | [x] => x
  | x :: y :: r => x ++ 47 :: joinL (y :: r)

theorem join_lv (l : List UInt8) : joinL (lvL l) = l := by
  induction l with
  | nil => rfl
  | cons c r ih =>
    unfold lvL
    split
    · rename_i hc
      cases e : lvL r with
      | nil => exact absurd e (lvL_ne r)
      | cons h t => rw [joinL, ← e, ih, hc]; rfl
    · split
      · rename_i e; exact absurd e (lvL_ne r)
      · rename_i h t e
        rw [e] at ih
        cases t with
        | nil => rw [joinL] at ih ⊢; rw [ih]
        | cons h' t' => rw [joinL] at ih ⊢; rw [List.cons_append, ih]

theorem LV_inj {a b : ByteArray} (h : LV a = LV b) : a = b := by
  have e : lvL a.data.toList = lvL b.data.toList := by
    unfold LV at h
    have := congrArg (List.map fun s : ByteArray => s.data.toList) h
    simpa [List.map_map, Function.comp_def] using this
  have := congrArg joinL e
  rw [join_lv, join_lv] at this
  exact ByteArray.ext (Array.toList_inj.1 this)

theorem match_plain {a b : ByteArray} (ha : chk nameF a = 0) (hb : chk nameF b = 0) : matchB a b = decide (a = b) := by
  rw [matchB, takes_plain (name_levels ha) (name_levels hb)]
  simp only [name_filter ha, hb, decide_true, Bool.true_and]
  rw [decide_eq_decide]
  exact ⟨LV_inj, fun h => by rw [h]⟩
theorem matchE_plain {a b : ByteArray} (ha : chk nameF a = 0) (hb : chk nameF b = 0) : matchE a b = 0 := by
  rw [matchE, if_pos (name_filter ha), hb]
theorem hash_ok : chk filtF ⟨#[35]⟩ = 0 := by decide +kernel
theorem hash_takes (O : List ByteArray) : takes (LV ⟨#[35]⟩) O = true := by
  rw [show LV ⟨#[35]⟩ = [⟨#[35]⟩] by decide +kernel]; exact takes_hash _ _ rfl
theorem match_hash {a : ByteArray} (ha : chk nameF a = 0) : matchB ⟨#[35]⟩ a = true := by
  rw [matchB, hash_takes]; simp [hash_ok, ha]
theorem matchE_hash {a : ByteArray} (ha : chk nameF a = 0) : matchE ⟨#[35]⟩ a = 0 := by rw [matchE, if_pos hash_ok, ha]
theorem cov_hash {a : ByteArray} (ha : chk filtF a = 0) : covB ⟨#[35]⟩ a = true := by
  rw [covB, hash_takes]; simp [hash_ok, ha]
theorem covE_hash {a : ByteArray} (ha : chk filtF a = 0) : covE ⟨#[35]⟩ a = 0 := by rw [covE, if_pos hash_ok, ha]

end Go.Proofs.YtbodjfmbdddieaeDoor
