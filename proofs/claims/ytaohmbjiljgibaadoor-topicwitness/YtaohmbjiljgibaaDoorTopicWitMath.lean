/-
  Where a filter does not cover another one there is a topic that the other one alone is for: plain facts.
-/
import Derived.Test.YtaohmbjiljgibaaDoorTopicCoversMath
namespace Go.Proofs.YtaohmbjiljgibaaDoor
open Go.RowKit Go.PlainAid

def substL (p : ByteArray) (t B : List ByteArray) : List ByteArray := B.flatMap fun x => if x = ⟨#[43]⟩ then [p] else if x = ⟨#[35]⟩ then t else [x]
def plainP : Nat → ByteArray
  | 0 => ⟨#[]⟩
  | 1 => ⟨#[33]⟩
  | _ => ⟨#[126]⟩
def tailT : Nat → List ByteArray
  | 0 => []
  | 1 => [⟨#[33]⟩]
  | 2 => [⟨#[33]⟩, ⟨#[33]⟩]
  | _ => [⟨#[126]⟩]
/-- the first n levels, one behind the other -/
def joinTo (l : List ByteArray) : Nat → ByteArray
  | 0 => ⟨#[]⟩
  | n + 1 => (if 0 < n then joinTo l n ++ ⟨#[47]⟩ else joinTo l n) ++ l.getD n ⟨#[]⟩
def nmL (b : ByteArray) (i k : Nat) : List ByteArray := substL (plainP i) (tailT k) (LV b)
def nm (b : ByteArray) (i k : Nat) : ByteArray := joinTo (nmL b i k) (nmL b i k).length

theorem subst_nil (p : ByteArray) (t : List ByteArray) : substL p t [] = [] := rfl
theorem subst_plus (p : ByteArray) (t B : List ByteArray) : substL p t (⟨#[43]⟩ :: B) = p :: substL p t B := rfl
theorem subst_hash (p : ByteArray) (t B : List ByteArray) : substL p t (⟨#[35]⟩ :: B) = t ++ substL p t B := rfl
theorem subst_lit {x : ByteArray} (p : ByteArray) (t B : List ByteArray) (h1 : x ≠ ⟨#[43]⟩) (h2 : x ≠ ⟨#[35]⟩) : substL p t (x :: B) = x :: substL p t B := by
  unfold substL; rw [List.flatMap_cons, if_neg h1, if_neg h2]; rfl

theorem takes_subst (p : ByteArray) (t B : List ByteArray) (hp : p ≠ ⟨#[35]⟩) : takes B (substL p t B) = true := by
  induction B with
  | nil => rfl
  | cons x B ih =>
    by_cases h2 : x = ⟨#[35]⟩
    · exact takes_hash _ _ h2
    · by_cases h1 : x = ⟨#[43]⟩
      · subst h1; rw [subst_plus]; exact takes_mk h2 hp (.inl rfl) ih
      · rw [subst_lit p t B h1 h2]; exact takes_mk h2 h2 (.inr rfl) ih

theorem takes_step_no {x y : ByteArray} {F O : List ByteArray} (h : x ≠ ⟨#[35]⟩) (ht : takes F O = false) : takes (x :: F) (y :: O) = false := by
  rw [takes_cons y F O h, ht]; split
  · rfl
  · split <;> rfl
theorem takes_differ {x y : ByteArray} (F O : List ByteArray) (h : x ≠ ⟨#[35]⟩) (h1 : x ≠ ⟨#[43]⟩) (h2 : x ≠ y) : takes (x :: F) (y :: O) = false := by
  rw [takes_cons y F O h, if_pos (show x ≠ ⟨#[43]⟩ ∧ x ≠ y from ⟨h1, h2⟩)]; split <;> rfl

/-- # stands last alone -/
def HL (B : List ByteArray) : Prop := ∀ k (h : k < B.length), B[k] = ⟨#[35]⟩ → k + 1 = B.length
theorem HL.tail {x : ByteArray} {B : List ByteArray} (h : HL (x :: B)) : HL B := fun k hk e => by
  have := h (k + 1) (by simpa using hk) (by simpa using e)
  simpa using this

theorem witness_list (A : List ByteArray) : ∀ B : List ByteArray, HL B → takes A B = false →
    (∀ t, takes A (substL ⟨#[126]⟩ t B) = false) ∨ takes A (substL ⟨#[33]⟩ [] B) = false ∨ takes A (substL ⟨#[33]⟩ [⟨#[33]⟩] B) = false := by
  induction A with
  | nil =>
    intro B hB ht
    cases B with
    | nil => cases ht
    | cons y B =>
      right; right
      by_cases h2 : y = ⟨#[35]⟩
      · subst h2; rw [subst_hash]; rfl
      · by_cases h1 : y = ⟨#[43]⟩
        · subst h1; rw [subst_plus]; rfl
        · rw [subst_lit _ _ _ h1 h2]; rfl
  | cons x A ih =>
    intro B hB ht
    have hx : x ≠ ⟨#[35]⟩ := fun e => by rw [takes_hash _ _ e] at ht; cases ht
    cases B with
    | nil => right; left; exact takes_nil A hx
    | cons y B =>
      by_cases hy : y = ⟨#[35]⟩
      · subst hy
        have hB0 : B = [] := by
          have := hB 0 (by simp) rfl
          simpa using this.symm
        subst hB0
        right; left
        rw [subst_hash, subst_nil]; exact takes_nil A hx
      · rw [takes_cons y A B hx, if_neg hy] at ht
        by_cases hc : x ≠ ⟨#[43]⟩ ∧ x ≠ y
        · by_cases h1 : y = ⟨#[43]⟩
          · subst h1
            by_cases he : x = ⟨#[33]⟩
            · left
              intro t
              rw [subst_plus]
              exact takes_differ _ _ hx hc.1 (by rw [he]; decide)
            · right; left
              rw [subst_plus]
              exact takes_differ _ _ hx hc.1 he
          · right; left
            rw [subst_lit _ _ _ h1 hy]
            exact takes_differ _ _ hx hc.1 hc.2
        · rw [if_neg hc] at ht
          by_cases h1 : y = ⟨#[43]⟩
          · subst h1
            rcases ih B hB.tail ht with h | h | h
            · left; intro t; rw [subst_plus]; exact takes_step_no hx (h t)
            · right; left; rw [subst_plus]; exact takes_step_no hx h
            · right; right; rw [subst_plus]; exact takes_step_no hx h
          · rcases ih B hB.tail ht with h | h | h
            · left; intro t; rw [subst_lit _ _ _ h1 hy]; exact takes_step_no hx (h t)
            · right; left; rw [subst_lit _ _ _ h1 hy]; exact takes_step_no hx h
            · right; right; rw [subst_lit _ _ _ h1 hy]; exact takes_step_no hx h

/-! levels that are joined are the levels of what they are joined to -/
theorem lvL_one (x : List UInt8) (h : (47 : UInt8) ∉ x) : lvL x = [x] := by
  induction x with
  | nil => rfl
  | cons c r ih =>
    have hc : c ≠ 47 := fun e => h (by rw [e]; exact List.mem_cons_self ..)
    rw [lvL, if_neg hc, ih (fun hr => h (List.mem_cons_of_mem _ hr))]
theorem lvL_slash (x J : List UInt8) (h : (47 : UInt8) ∉ x) : lvL (x ++ 47 :: J) = x :: lvL J := by
  induction x with
  | nil => rfl
  | cons c r ih =>
    have hc : c ≠ 47 := fun e => h (by rw [e]; exact List.mem_cons_self ..)
    rw [List.cons_append, lvL, if_neg hc, ih (fun hr => h (List.mem_cons_of_mem _ hr))]
theorem lvL_join (X : List (List UInt8)) (hX : X ≠ []) (h : ∀ x ∈ X, (47 : UInt8) ∉ x) : lvL (joinL X) = X := by
  induction X with
  | nil => exact absurd rfl hX
  | cons x X ih =>
    cases X with
    | nil => rw [joinL]; exact lvL_one x (h x (List.mem_cons_self ..))
    | cons y X =>
      rw [joinL, lvL_slash _ _ (h x (List.mem_cons_self ..)), ih (by simp) (fun z hz => h z (List.mem_cons_of_mem _ hz))]
theorem join_snoc (X : List (List UInt8)) (y : List UInt8) : joinL (X ++ [y]) = if X = [] then y else joinL X ++ 47 :: y := by
  induction X with
  | nil => rfl
  | cons x X ih =>
    cases X with
    | nil => rfl
    | cons z X =>
      rw [if_neg (by simp)]
      show joinL (x :: z :: (X ++ [y])) = _
      rw [joinL, show z :: (X ++ [y]) = (z :: X) ++ [y] from rfl, ih, if_neg (by simp), joinL]
      simp
theorem lvL_noslash (l : List UInt8) : ∀ x ∈ lvL l, (47 : UInt8) ∉ x := by
  induction l with
  | nil => intro x hx; simp [lvL] at hx; simp [hx]
  | cons c r ih =>
    intro x hx
    unfold lvL at hx
    split at hx
    · rcases List.mem_cons.1 hx with e | e
      · simp [e]
      · exact ih x e
    · rename_i hc
      split at hx
      · rename_i e; exact absurd e (lvL_ne r)
      · rename_i h t e
        rcases List.mem_cons.1 hx with e' | e'
        · subst e'
          intro hm
          rcases List.mem_cons.1 hm with e2 | e2
          · exact hc e2.symm
          · exact ih h (by rw [e]; exact List.mem_cons_self ..) e2
        · exact ih x (by rw [e]; exact List.mem_cons_of_mem _ e')

theorem joinTo_data (L : List ByteArray) : ∀ n, n ≤ L.length → (joinTo L n).data.toList = joinL ((L.take n).map fun x => x.data.toList)
  | 0, _ => rfl
  | n + 1, h => by
    have hn : n < L.length := by omega
    have e : L.getD n ⟨#[]⟩ = L[n] := by rw [List.getD_eq_getElem?_getD, List.getElem?_eq_getElem hn]; rfl
    rw [joinTo, e, List.take_succ_eq_append_getElem hn, List.map_append, List.map_cons, List.map_nil, join_snoc]
    by_cases h0 : 0 < n
    · rw [if_pos h0, if_neg (fun e => by have := congrArg List.length e; simp only [List.length_map, List.length_take, List.length_nil] at this; omega), ByteArray.data_append, ByteArray.data_append, Array.toList_append, Array.toList_append, joinTo_data L n (by omega)]
      simp
    · obtain rfl : n = 0 := by omega
      simp [joinTo]

def NoSlash (L : List ByteArray) : Prop := ∀ x ∈ L, (47 : UInt8) ∉ x.data.toList
theorem LV_joinTo (L : List ByteArray) (hL : L ≠ []) (h : NoSlash L) : LV (joinTo L L.length) = L := by
  unfold LV
  rw [joinTo_data L L.length (Nat.le_refl _), List.take_length, lvL_join _ (by simpa using hL) (by
    intro x hx
    obtain ⟨y, hy, rfl⟩ := List.mem_map.1 hx
    exact h y hy), List.map_map]
  conv => rhs; rw [← List.map_id L]
  apply List.map_congr_left
  intro x _
  rfl
theorem joinTo_LV (s : ByteArray) : joinTo (LV s) (LV s).length = s := by
  apply ByteArray.ext
  apply Array.toList_inj.1
  rw [joinTo_data _ _ (Nat.le_refl _), List.take_length]
  have : (LV s).map (fun x => x.data.toList) = lvL s.data.toList := by
    unfold LV; rw [List.map_map]
    conv => rhs; rw [← List.map_id (lvL s.data.toList)]
    apply List.map_congr_left
    intro x _
    rfl
  rw [this, join_lv]
theorem LV_noslash (s : ByteArray) : NoSlash (LV s) := by
  intro x hx
  obtain ⟨l, hl, rfl⟩ := List.mem_map.1 hx
  exact lvL_noslash _ l hl

theorem joinTo_le {L B : List ByteArray} : ∀ n, (∀ k, k < n → (L.getD k ⟨#[]⟩).size ≤ (B.getD k ⟨#[]⟩).size) → (joinTo L n).size ≤ (joinTo B n).size
  | 0, _ => Nat.le_refl _
  | n + 1, h => by
    have ih := joinTo_le n (fun k hk => h k (by omega))
    have h1 := h n (by omega)
    rw [joinTo, joinTo, ByteArray.size_append, ByteArray.size_append]
    by_cases h0 : 0 < n
    · rw [if_pos h0, if_pos h0, ByteArray.size_append, ByteArray.size_append]; omega
    · rw [if_neg h0, if_neg h0]; omega
theorem joinTo_mono (B : List ByteArray) (n : Nat) : (joinTo B n).size ≤ (joinTo B (n + 1)).size := by
  rw [joinTo, ByteArray.size_append]; split
  · rw [ByteArray.size_append]; omega
  · omega
theorem joinTo_mono' (B : List ByteArray) {n m : Nat} (h : n ≤ m) : (joinTo B n).size ≤ (joinTo B m).size := by
  induction m with
  | zero => obtain rfl : n = 0 := by omega
            exact Nat.le_refl _
  | succ m ih =>
    by_cases e : n = m + 1
    · subst e; exact Nat.le_refl _
    · exact Nat.le_trans (ih (by omega)) (joinTo_mono B m)

theorem subst_append (p : ByteArray) (t A B : List ByteArray) : substL p t (A ++ B) = substL p t A ++ substL p t B := List.flatMap_append
theorem subst_take (p : ByteArray) (t B : List ByteArray) {n : Nat} (h : n < B.length) : substL p t (B.take (n + 1)) = substL p t (B.take n) ++ substL p t [B[n]] := by
  rw [List.take_succ_eq_append_getElem h, subst_append]
theorem subst_len (p : ByteArray) (t B : List ByteArray) (ht : t.length ≤ 2) : (substL p t B).length ≤ 2 * B.length := by
  induction B with
  | nil => simp [substL]
  | cons x B ih =>
    by_cases h1 : x = ⟨#[43]⟩
    · subst h1; rw [subst_plus]; simp; omega
    · by_cases h2 : x = ⟨#[35]⟩
      · subst h2; rw [subst_hash]; simp; omega
      · rw [subst_lit _ _ _ h1 h2]; simp; omega
theorem tailT_len (k : Nat) : (tailT k).length ≤ 2 := by
  match k with
  | 0 => decide
  | 1 => decide
  | 2 => decide
  | _ + 3 => show ([⟨#[126]⟩] : List ByteArray).length ≤ 2; decide
theorem joinTo_size (L : List ByteArray) (h : ∀ x ∈ L, x.size ≤ 60) (n : Nat) : (joinTo L n).size ≤ 61 * n := by
  induction n with
  | zero => exact Nat.le_refl _
  | succ n ih =>
    have hx : (L.getD n ⟨#[]⟩).size ≤ 60 := by
      rw [List.getD_eq_getElem?_getD]
      by_cases hn : n < L.length
      · rw [List.getElem?_eq_getElem hn]; exact h _ (List.getElem_mem _)
      · rw [List.getElem?_eq_none (by omega)]; exact Nat.zero_le _
    have e47 : (⟨#[47]⟩ : ByteArray).size = 1 := rfl
    rw [joinTo, ByteArray.size_append]
    by_cases h0 : 0 < n
    · rw [if_pos h0, ByteArray.size_append, e47]; omega
    · rw [if_neg h0]; omega
theorem subst_size {p : ByteArray} {t B : List ByteArray} (hp : p.size ≤ 60) (ht : ∀ x ∈ t, x.size ≤ 60) (hB : ∀ x ∈ B, x.size ≤ 60) : ∀ x ∈ substL p t B, x.size ≤ 60 := by
  intro x hx
  obtain ⟨y, hy, hxy⟩ := List.mem_flatMap.1 hx
  by_cases h1 : y = ⟨#[43]⟩
  · rw [if_pos h1] at hxy; rw [List.mem_singleton.1 hxy]; exact hp
  · rw [if_neg h1] at hxy
    by_cases h2 : y = ⟨#[35]⟩
    · rw [if_pos h2] at hxy; exact ht x hxy
    · rw [if_neg h2] at hxy
      rw [List.mem_singleton.1 hxy]; exact hB y hy
theorem tailT_size (k : Nat) : ∀ x ∈ tailT k, x.size ≤ 60 := by
  match k with
  | 0 => intro x hx; cases hx
  | 1 => decide
  | 2 => decide
  | _ + 3 => show ∀ x ∈ [(⟨#[126]⟩ : ByteArray)], x.size ≤ 60; decide
theorem joinTo_first (L : List ByteArray) (h : 0 < L.length) : joinTo L 1 = L[0] := by
  rw [joinTo, if_neg (by omega), joinTo]
  have e : L.getD 0 ⟨#[]⟩ = L[0] := by rw [List.getD_eq_getElem?_getD, List.getElem?_eq_getElem h]; rfl
  rw [e]
  apply ByteArray.ext; apply Array.toList_inj.1; simp
theorem joinTo_next (L : List ByteArray) {n : Nat} (h0 : 0 < n) (h : n < L.length) : joinTo L (n + 1) = joinTo L n ++ ⟨#[47]⟩ ++ L[n] := by
  rw [joinTo, if_pos h0]
  have e : L.getD n ⟨#[]⟩ = L[n] := by rw [List.getD_eq_getElem?_getD, List.getElem?_eq_getElem h]; rfl
  rw [e]

/-! the witness -/
theorem plainP_plain (i : Nat) : plain (plainP i) = true := by
  match i with
  | 0 => decide +kernel
  | 1 => decide +kernel
  | _ + 2 => show plain ⟨#[126]⟩ = true; decide +kernel
theorem plainP_size (i : Nat) : (plainP i).size ≤ 1 := by
  match i with
  | 0 => decide
  | 1 => decide
  | _ + 2 => show (⟨#[126]⟩ : ByteArray).size ≤ 1; decide
theorem plainP_ne (i : Nat) (h : 1 ≤ i) : plainP i ≠ ⟨#[]⟩ := by
  match i, h with
  | 1, _ => decide
  | _ + 2, _ => show (⟨#[126]⟩ : ByteArray) ≠ ⟨#[]⟩; decide
theorem tailT_plain (k : Nat) : ∀ x ∈ tailT k, plain x = true := by
  match k with
  | 0 => intro x hx; cases hx
  | 1 => decide +kernel
  | 2 => decide +kernel
  | _ + 3 => show ∀ x ∈ [(⟨#[126]⟩ : ByteArray)], plain x = true; decide +kernel
theorem filter_level {b : ByteArray} (h : chk filtF b = 0) : ∀ x ∈ LV b, x = ⟨#[43]⟩ ∨ x = ⟨#[35]⟩ ∨ plain x = true := by
  intro x hx
  obtain ⟨k, hk, rfl⟩ := List.mem_iff_getElem.1 hx
  have := okTo_all (Nat.le_refl _) (chk_ok h).2.2.2 k hk hk
  unfold filtF at this
  rw [Bool.or_eq_true, Bool.or_eq_true] at this
  rcases this with (h | h) | h
  · exact .inl (of_decide_eq_true h)
  · rw [Bool.and_eq_true] at h; exact .inr (.inl (of_decide_eq_true h.1))
  · exact .inr (.inr h)
theorem subst_plain {p : ByteArray} {t B : List ByteArray} (hp : plain p = true) (ht : ∀ x ∈ t, plain x = true) (hB : ∀ x ∈ B, x = ⟨#[43]⟩ ∨ x = ⟨#[35]⟩ ∨ plain x = true) : ∀ x ∈ substL p t B, plain x = true := by
  intro x hx
  obtain ⟨y, hy, hxy⟩ := List.mem_flatMap.1 hx
  by_cases h1 : y = ⟨#[43]⟩
  · rw [if_pos h1] at hxy; rw [List.mem_singleton.1 hxy]; exact hp
  · rw [if_neg h1] at hxy
    by_cases h2 : y = ⟨#[35]⟩
    · rw [if_pos h2] at hxy; exact ht x hxy
    · rw [if_neg h2] at hxy
      rw [List.mem_singleton.1 hxy]
      rcases hB y hy with h | h | h
      · exact absurd h h1
      · exact absurd h h2
      · exact h
theorem subst_noslash {p : ByteArray} {t B : List ByteArray} (hp : (47 : UInt8) ∉ p.data.toList) (ht : NoSlash t) (hB : NoSlash B) : NoSlash (substL p t B) := by
  intro x hx
  obtain ⟨y, hy, hxy⟩ := List.mem_flatMap.1 hx
  by_cases h1 : y = ⟨#[43]⟩
  · rw [if_pos h1] at hxy; rw [List.mem_singleton.1 hxy]; exact hp
  · rw [if_neg h1] at hxy
    by_cases h2 : y = ⟨#[35]⟩
    · rw [if_pos h2] at hxy; exact ht x hxy
    · rw [if_neg h2] at hxy
      rw [List.mem_singleton.1 hxy]; exact hB y hy
theorem plainP_noslash (i : Nat) : (47 : UInt8) ∉ (plainP i).data.toList := by
  match i with
  | 0 => decide
  | 1 => decide
  | _ + 2 => show (47 : UInt8) ∉ (⟨#[126]⟩ : ByteArray).data.toList; decide
theorem tailT_noslash (k : Nat) : NoSlash (tailT k) := by
  match k with
  | 0 => intro x hx; cases hx
  | 1 => intro x hx; rw [List.mem_singleton.1 hx]; decide
  | 2 => intro x hx; simp [tailT] at hx; rw [hx]; decide
  | _ + 3 => intro x hx; rw [List.mem_singleton.1 hx]; decide
theorem nmL_noslash (b : ByteArray) (i k : Nat) : NoSlash (nmL b i k) := subst_noslash (plainP_noslash i) (tailT_noslash k) (LV_noslash b)

/-- a tail of one level of one byte: as many levels, none longer -/
theorem subst_same {p x : ByteArray} (hp : p.size ≤ 1) (hx : x.size ≤ 1) (B : List ByteArray) : (substL p [x] B).length = B.length ∧ ∀ k : Nat, ((substL p [x] B).getD k ⟨#[]⟩).size ≤ (B.getD k ⟨#[]⟩).size := by
  induction B with
  | nil => exact ⟨rfl, fun k => Nat.le_refl _⟩
  | cons y B ih =>
    by_cases h1 : y = ⟨#[43]⟩
    · subst h1; rw [subst_plus]
      refine ⟨by simp [ih.1], fun k => ?_⟩
      cases k with
      | zero => exact hp
      | succ k => simpa using ih.2 k
    · by_cases h2 : y = ⟨#[35]⟩
      · subst h2; rw [subst_hash]
        refine ⟨by simp [ih.1], fun k => ?_⟩
        cases k with
        | zero => exact hx
        | succ k => simpa using ih.2 k
      · rw [subst_lit _ _ _ h1 h2]
        refine ⟨by simp [ih.1], fun k => ?_⟩
        cases k with
        | zero => exact Nat.le_refl _
        | succ k => simpa using ih.2 k
/-- no tail: no more levels, none longer (a # stands last alone) -/
theorem subst_less {p : ByteArray} (hp : p.size ≤ 1) (B : List ByteArray) (hB : HL B) : (substL p [] B).length ≤ B.length ∧ ∀ k : Nat, ((substL p [] B).getD k ⟨#[]⟩).size ≤ (B.getD k ⟨#[]⟩).size := by
  induction B with
  | nil => exact ⟨Nat.le_refl _, fun k => Nat.le_refl _⟩
  | cons y B ih =>
    have ih := ih hB.tail
    by_cases h1 : y = ⟨#[43]⟩
    · subst h1; rw [subst_plus]
      refine ⟨by have := ih.1; simp; omega, fun k => ?_⟩
      cases k with
      | zero => exact hp
      | succ k => simpa using ih.2 k
    · by_cases h2 : y = ⟨#[35]⟩
      · subst h2
        have hB0 : B = [] := by
          have := hB 0 (by simp) rfl
          simpa using this.symm
        subst hB0
        rw [subst_hash, subst_nil]
        exact ⟨by simp, fun k => Nat.zero_le _⟩
      · rw [subst_lit _ _ _ h1 h2]
        refine ⟨by have := ih.1; simp; omega, fun k => ?_⟩
        cases k with
        | zero => exact Nat.le_refl _
        | succ k => simpa using ih.2 k

theorem nm_ok {b : ByteArray} {i k : Nat} (h : chk filtF b = 0) (hne : nmL b i k ≠ []) (hne1 : nmL b i k ≠ [⟨#[]⟩]) (hl : (nmL b i k).length ≤ (LV b).length)
    (hs : ∀ j : Nat, ((nmL b i k).getD j ⟨#[]⟩).size ≤ ((LV b).getD j ⟨#[]⟩).size) : chk nameF (nm b i k) = 0 := by
  have hLV : LV (nm b i k) = nmL b i k := LV_joinTo _ hne (nmL_noslash b i k)
  obtain ⟨h1, h0, h2, h3⟩ := chk_ok h
  refine chk_mk ?_ ?_ (by rw [hLV]; omega) ?_
  · refine Nat.le_trans (joinTo_le (B := LV b) _ (fun j _ => hs j)) (Nat.le_trans (joinTo_mono' (LV b) hl) ?_)
    rw [joinTo_LV]; exact h1
  · rcases Nat.eq_zero_or_pos (nm b i k).size with e | e
    · exfalso
      have e2 : nm b i k = ⟨#[]⟩ := by apply ByteArray.ext; exact Array.eq_empty_of_size_eq_zero e
      rw [e2, LV_empty] at hLV
      exact hne1 hLV.symm
    · exact e
  · rw [hLV]
    refine okTo_mk (Nat.le_refl _) fun j _ hj => ?_
    exact subst_plain (plainP_plain i) (tailT_plain k) (filter_level h) _ (List.getElem_mem _)

theorem nm_LV {b : ByteArray} {i k : Nat} (hne : nmL b i k ≠ []) : LV (nm b i k) = nmL b i k := LV_joinTo _ hne (nmL_noslash b i k)

/-- (i, k) gives a topic that b alone is for -/
def Wit (a b : ByteArray) (i k : Nat) : Prop := chk nameF (nm b i k) = 0 ∧ matchB b (nm b i k) = true ∧ matchB a (nm b i k) = false

theorem wit_mk {a b : ByteArray} {i k : Nat} (ha : chk filtF a = 0) (hb : chk filtF b = 0) (hne : nmL b i k ≠ []) (hn : chk nameF (nm b i k) = 0) (ht : takes (LV a) (nmL b i k) = false) : Wit a b i k := by
  refine ⟨hn, ?_, ?_⟩
  · rw [matchB_ok hb hn, nm_LV hne]; exact takes_subst _ _ _ (plain_hash (plainP_plain i))
  · rw [matchB_ok ha hn, nm_LV hne]; exact ht

theorem HL_of {b : ByteArray} (h : chk filtF b = 0) : HL (LV b) := fun k hk e => hash_last h k hk e

theorem wit_exists {a b : ByteArray} (ha : chk filtF a = 0) (hb : chk filtF b = 0) (hc : covB a b = false) : ∃ i k, i < 3 ∧ k < 4 ∧ Wit a b i k := by
  rw [covB_ok ha hb] at hc
  unfold spell at hc
  by_cases h1 : b = ⟨#[35]⟩
  · subst h1
    rw [if_pos rfl, show LV ⟨#[43, 47, 35]⟩ = [⟨#[43]⟩, ⟨#[35]⟩] by decide +kernel] at hc
    have e0 : ∀ k, nmL ⟨#[35]⟩ 1 k = tailT k := fun k => by
      unfold nmL; rw [show LV ⟨#[35]⟩ = [⟨#[35]⟩] by decide +kernel, subst_hash, subst_nil, List.append_nil]
    rcases witness_list _ _ (by intro k hk e; match k, hk, e with | 1, _, _ => rfl) hc with h | h | h
    · exact ⟨1, 3, by omega, by omega, wit_mk ha hb (by rw [e0]; decide) (by decide +kernel) (by rw [e0]; exact h [])⟩
    · exact ⟨1, 1, by omega, by omega, wit_mk ha hb (by rw [e0]; decide) (by decide +kernel) (by rw [e0]; exact h)⟩
    · exact ⟨1, 2, by omega, by omega, wit_mk ha hb (by rw [e0]; decide) (by decide +kernel) (by rw [e0]; exact h)⟩
  · rw [if_neg h1] at hc
    by_cases h2 : b = ⟨#[47, 35]⟩
    · subst h2
      rw [if_pos rfl, show LV ⟨#[47, 43, 47, 35]⟩ = [⟨#[]⟩, ⟨#[43]⟩, ⟨#[35]⟩] by decide +kernel] at hc
      have e0 : ∀ k, nmL ⟨#[47, 35]⟩ 1 k = ⟨#[]⟩ :: tailT k := fun k => by
        unfold nmL; rw [show LV ⟨#[47, 35]⟩ = [⟨#[]⟩, ⟨#[35]⟩] by decide +kernel, subst_lit _ _ _ (by decide) (by decide), subst_hash, subst_nil, List.append_nil]
      rcases witness_list _ _ (by intro k hk e; match k, hk, e with | 2, _, _ => rfl) hc with h | h | h
      · exact ⟨1, 3, by omega, by omega, wit_mk ha hb (by rw [e0]; simp) (by decide +kernel) (by rw [e0]; exact h [])⟩
      · exact ⟨1, 1, by omega, by omega, wit_mk ha hb (by rw [e0]; simp) (by decide +kernel) (by rw [e0]; exact h)⟩
      · exact ⟨1, 2, by omega, by omega, wit_mk ha hb (by rw [e0]; simp) (by decide +kernel) (by rw [e0]; exact h)⟩
    · rw [if_neg h2] at hc
      have hB := HL_of hb
      have hne := LV_ne b
      have same : ∀ i, 1 ≤ i → takes (LV a) (substL (plainP i) [⟨#[33]⟩] (LV b)) = false → Wit a b i 1 := by
        intro i hi ht
        have hs := subst_same (p := plainP i) (x := ⟨#[33]⟩) (plainP_size i) (by decide) (LV b)
        have hn0 : nmL b i 1 ≠ [] := fun e => hne (List.length_eq_zero_iff.1 (by rw [← hs.1]; exact List.length_eq_zero_iff.2 e))
        refine wit_mk ha hb hn0 (nm_ok hb hn0 ?_ (Nat.le_of_eq hs.1) hs.2) ht
        intro e
        have e' : substL (plainP i) [⟨#[33]⟩] (LV b) = [⟨#[]⟩] := e
        cases hB' : LV b with
        | nil => exact hne hB'
        | cons y B =>
          rw [hB'] at e'
          by_cases hy1 : y = ⟨#[43]⟩
          · subst hy1; rw [subst_plus] at e'
            exact plainP_ne i hi (List.cons.inj e').1
          · by_cases hy2 : y = ⟨#[35]⟩
            · subst hy2; rw [subst_hash] at e'
              exact absurd (List.cons.inj e').1 (by decide)
            · rw [subst_lit _ _ _ hy1 hy2] at e'
              obtain ⟨ey, eB⟩ := List.cons.inj e'
              have hB0 : B = [] := by
                have := (subst_same (p := plainP i) (x := ⟨#[33]⟩) (plainP_size i) (by decide) B).1
                rw [eB] at this; exact List.length_eq_zero_iff.1 this.symm
              rw [ey, hB0] at hB'
              have : b = ⟨#[]⟩ := LV_inj (by rw [hB', LV_empty])
              have h0 := (chk_ok hb).2.1
              rw [this] at h0; exact absurd h0 (by decide)
      rcases witness_list _ _ hB hc with h | h | h
      · exact ⟨2, 1, by omega, by omega, same 2 (by omega) (h [⟨#[33]⟩])⟩
      · have hs := subst_less (p := ⟨#[33]⟩) (by decide) (LV b) hB
        have hn : substL ⟨#[33]⟩ [] (LV b) ≠ [] ∧ substL ⟨#[33]⟩ [] (LV b) ≠ [⟨#[]⟩] := by
          cases hB' : LV b with
          | nil => exact absurd hB' hne
          | cons y B =>
            by_cases hy1 : y = ⟨#[43]⟩
            · subst hy1; rw [subst_plus]
              exact ⟨by simp, fun e => absurd (List.cons.inj e).1 (by decide)⟩
            · by_cases hy2 : y = ⟨#[35]⟩
              · exfalso
                subst hy2
                have hB0 : B = [] := by
                  have := hB 0 (by rw [hB']; simp) (by simp [hB'])
                  rw [hB'] at this; simpa using this.symm
                subst hB0
                exact h1 (LV_inj (by rw [hB']; decide +kernel))
              · rw [subst_lit _ _ _ hy1 hy2]
                refine ⟨by simp, fun e => ?_⟩
                obtain ⟨ey, eB⟩ := List.cons.inj e
                subst ey
                cases B with
                | nil =>
                  have : b = ⟨#[]⟩ := LV_inj (by rw [hB', LV_empty])
                  have h0 := (chk_ok hb).2.1
                  rw [this] at h0; exact absurd h0 (by decide)
                | cons z B =>
                  by_cases hz1 : z = ⟨#[43]⟩
                  · subst hz1; rw [subst_plus] at eB; cases eB
                  · by_cases hz2 : z = ⟨#[35]⟩
                    · subst hz2
                      have hB0 : B = [] := by
                        have := hB 1 (by rw [hB']; simp) (by simp [hB'])
                        rw [hB'] at this; simpa using this.symm
                      subst hB0
                      exact h2 (LV_inj (by rw [hB']; decide +kernel))
                    · rw [subst_lit _ _ _ hz1 hz2] at eB; cases eB
        exact ⟨1, 0, by omega, by omega, wit_mk ha hb hn.1 (nm_ok hb hn.1 hn.2 hs.1 hs.2) h⟩
      · exact ⟨1, 1, by omega, by omega, same 1 (by omega) h⟩
end Go.Proofs.YtaohmbjiljgibaaDoor
