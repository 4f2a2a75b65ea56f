/-
  dragomanref.IsPlain and CheckTopic: what they answer, for a text of at most 1048576 bytes.
-/
import Derived.Test.YtbodjfmbdddieafDoorTopicLevelsOf
import Derived.Test.YtbodjfmbdddieafDoorBetween
namespace Go.Proofs.YtbodjfmbdddieafDoor
open Go.RowKit Go.PlainAid

/-- may the bytes be seen? -/
def rngTo (s : ByteArray) : Nat → Bool
  | 0 => true
  | k + 1 => rngTo s k && (decide (33 ≤ bt s k) && decide (bt s k ≤ 126))
/-- is a + or # among them? -/
def wildTo (s : ByteArray) : Nat → Bool
  | 0 => false
  | k + 1 => wildTo s k || (bt s k == 43) || (bt s k == 35)
/-- the reference's look at one level -/
def lvOkF (b : Bool) (x : ByteArray) (last : Bool) : Bool := !(wildTo x x.size) || (b && (decide (x = ⟨#[43]⟩) || (decide (x = ⟨#[35]⟩) && last)))

theorem rngTo_iff (s : ByteArray) (n : Nat) : rngTo s n = true ↔ ∀ j, j < n → 33 ≤ bt s j ∧ bt s j ≤ 126 := by
  induction n with
  | zero => simp [rngTo]
  | succ n ih =>
    rw [rngTo, Bool.and_eq_true, ih, Bool.and_eq_true, decide_eq_true_eq, decide_eq_true_eq]
    constructor
    · intro h j hj
      by_cases e : j = n
      · subst e; exact h.2
      · exact h.1 j (by omega)
    · intro h; exact ⟨fun j hj => h j (by omega), h n (by omega)⟩
theorem plainTo_iff (s : ByteArray) (n : Nat) : plainTo s n = true ↔ ∀ j, j < n → plainC (bt s j) = true := by
  induction n with
  | zero => simp [plainTo]
  | succ n ih =>
    rw [plainTo, Bool.and_eq_true, ih]
    constructor
    · intro h j hj
      by_cases e : j = n
      · subst e; exact h.2
      · exact h.1 j (by omega)
    · intro h; exact ⟨fun j hj => h j (by omega), h n (by omega)⟩
theorem wildTo_iff (s : ByteArray) (n : Nat) : wildTo s n = false ↔ ∀ j, j < n → bt s j ≠ 43 ∧ bt s j ≠ 35 := by
  induction n with
  | zero => simp [wildTo]
  | succ n ih =>
    rw [wildTo, Bool.or_eq_false_iff, Bool.or_eq_false_iff, ih, beq_eq_false_iff_ne, beq_eq_false_iff_ne]
    constructor
    · intro h j hj
      by_cases e : j = n
      · subst e; exact ⟨h.1.2, h.2⟩
      · exact h.1.1 j (by omega)
    · intro h; exact ⟨⟨fun j hj => h j (by omega), (h n (by omega)).1⟩, (h n (by omega)).2⟩

theorem rng_no {s : ByteArray} {k : Nat} (hk : k < s.size) (h : ¬ (33 ≤ bt s k ∧ bt s k ≤ 126)) : rngTo s s.size = false := by
  rw [← Bool.not_eq_true, rngTo_iff]; exact fun hh => h (hh k hk)
theorem rng_more {s : ByteArray} {k : Nat} (hk : rngTo s k = true) (h : 33 ≤ bt s k ∧ bt s k ≤ 126) : rngTo s (k + 1) = true := by
  rw [rngTo, hk]; simp [h]

theorem plain_split (x : ByteArray) : plain x = (rngTo x x.size && !(wildTo x x.size)) := by
  rw [Bool.eq_iff_iff, Bool.and_eq_true, Bool.not_eq_true', rngTo_iff, wildTo_iff, plain, plainTo_iff]
  constructor
  · intro h
    exact ⟨fun j hj => by have := h j hj; simp [plainC] at this; omega, fun j hj => by have := h j hj; simp [plainC] at this; omega⟩
  · intro h j hj
    have h1 := h.1 j hj
    have h2 := h.2 j hj
    simp [plainC]; omega

/-- what is seen of a text is what is seen of its levels -/
theorem rng_lvL (l : List UInt8) : (∀ c ∈ l, (33 : Int) ≤ c.toNat ∧ (c.toNat : Int) ≤ 126) ↔ ∀ x ∈ lvL l, ∀ c ∈ x, (33 : Int) ≤ c.toNat ∧ (c.toNat : Int) ≤ 126 := by
  induction l with
  | nil => simp [lvL]
  | cons c r ih =>
    unfold lvL
    split
    · rename_i hc
      subst hc
      constructor
      · intro h x hx
        rcases List.mem_cons.1 hx with e | e
        · subst e; intro d hd; cases hd
        · exact ih.1 (fun d hd => h d (List.mem_cons_of_mem _ hd)) x e
      · intro h d hd
        rcases List.mem_cons.1 hd with e | e
        · subst e; decide
        · exact ih.2 (fun x hx => h x (List.mem_cons_of_mem _ hx)) d e
    · split
      · rename_i e; exact absurd e (lvL_ne r)
      · rename_i h t e
        rw [e] at ih
        constructor
        · intro hh x hx
          have hr := ih.1 (fun d hd => hh d (List.mem_cons_of_mem _ hd))
          rcases List.mem_cons.1 hx with e' | e'
          · subst e'
            intro d hd
            rcases List.mem_cons.1 hd with e2 | e2
            · subst e2; exact hh d (List.mem_cons_self ..)
            · exact hr h (List.mem_cons_self ..) d e2
          · exact hr x (List.mem_cons_of_mem _ e')
        · intro hh d hd
          rcases List.mem_cons.1 hd with e2 | e2
          · subst e2; exact hh (d :: h) (List.mem_cons_self ..) d (List.mem_cons_self ..)
          · refine ih.2 (fun x hx => ?_) d e2
            rcases List.mem_cons.1 hx with e3 | e3
            · subst e3; exact fun c' hc' => hh (c :: x) (List.mem_cons_self ..) c' (List.mem_cons_of_mem _ hc')
            · exact hh x (List.mem_cons_of_mem _ e3)

theorem rng_list (s : ByteArray) : rngTo s s.size = true ↔ ∀ c ∈ s.data.toList, (33 : Int) ≤ c.toNat ∧ (c.toNat : Int) ≤ 126 := by
  rw [rngTo_iff]
  have hl : s.data.toList.length = s.size := by simp
  constructor
  · intro h c hc
    obtain ⟨k, hk, rfl⟩ := List.mem_iff_getElem.1 hc
    have := h k (by omega)
    rwa [bt_at s k hk] at this
  · intro h j hj
    have hj2 : j < s.data.toList.length := by omega
    rw [bt_at s j hj2]
    exact h _ (List.getElem_mem _)

theorem rng_LV (s : ByteArray) : rngTo s s.size = true ↔ ∀ x ∈ LV s, rngTo x x.size = true := by
  rw [rng_list, rng_lvL]
  constructor
  · intro h x hx
    obtain ⟨l, hl, rfl⟩ := List.mem_map.1 hx
    rw [rng_list]; exact h l hl
  · intro h l hl
    exact (rng_list ⟨l.toArray⟩).1 (h _ (List.mem_map.2 ⟨l, hl, rfl⟩))

/-- which levels may stand, by a filter or a name -/
def lvF (b : Bool) : ByteArray → Bool → Bool := if b then filtF else nameF

theorem lvF_rng {b : Bool} {x : ByteArray} {last : Bool} (h : rngTo x x.size = true) : lvF b x last = lvOkF b x last := by
  have hp : plain x = !(wildTo x x.size) := by rw [plain_split, h, Bool.true_and]
  cases b
  · show nameF x last = _
    simp [nameF, lvOkF, hp]
  · show filtF x last = _
    unfold filtF lvOkF
    rw [hp]
    cases wildTo x x.size <;> cases decide (x = ⟨#[43]⟩) <;> cases decide (x = ⟨#[35]⟩) <;> cases last <;> rfl
theorem lvF_no {b : Bool} {x : ByteArray} {last : Bool} (h : rngTo x x.size = false) : lvF b x last = false := by
  have hp : plain x = false := by rw [plain_split, h, Bool.false_and]
  cases b
  · exact hp
  · show filtF x last = false
    have h1 : x ≠ ⟨#[43]⟩ := fun e => by subst e; revert h; decide +kernel
    have h2 : x ≠ ⟨#[35]⟩ := fun e => by subst e; revert h; decide +kernel
    simp [filtF, h1, h2, hp]

theorem okTo_iff {p : ByteArray → Bool → Bool} {l : List ByteArray} : okTo p l l.length l.length = true ↔ ∀ k, (h : k < l.length) → p l[k] (k + 1 == l.length) = true :=
  ⟨fun h k hk => okTo_all (Nat.le_refl _) h k hk hk, fun h => okTo_mk (Nat.le_refl _) fun k hk _ => h k hk⟩

theorem chk_ref (b : Bool) {s : ByteArray} (h0 : ¬ s.size = 0) (h1 : ¬ 60 < s.size) (h2 : ¬ 6 < (LV s).length) :
    chk (lvF b) s = if rngTo s s.size = true then (if okTo (lvOkF b) (LV s) (LV s).length (LV s).length = true then 0 else 1) else 1 := by
  rw [chk_lv _ h0 h1 h2]
  by_cases hr : rngTo s s.size = true
  · rw [if_pos hr]
    have hx := (rng_LV s).1 hr
    have e : okTo (lvF b) (LV s) (LV s).length (LV s).length = okTo (lvOkF b) (LV s) (LV s).length (LV s).length := by
      rw [Bool.eq_iff_iff, okTo_iff, okTo_iff]
      constructor
      · intro h k hk; rw [← lvF_rng (hx _ (List.getElem_mem _))]; exact h k hk
      · intro h k hk; rw [lvF_rng (hx _ (List.getElem_mem _))]; exact h k hk
    rw [e]
  · rw [if_neg hr, if_neg]
    rw [okTo_iff]
    intro h
    apply hr
    rw [rng_LV]
    intro x hx
    obtain ⟨k, hk, rfl⟩ := List.mem_iff_getElem.1 hx
    by_cases hxr : rngTo (LV s)[k] (LV s)[k].size = true
    · exact hxr
    · have := lvF_no (b := b) (last := k + 1 == (LV s).length) (by simpa using hxr)
      rw [h k hk] at this; cases this
end Go.Proofs.YtbodjfmbdddieafDoor
