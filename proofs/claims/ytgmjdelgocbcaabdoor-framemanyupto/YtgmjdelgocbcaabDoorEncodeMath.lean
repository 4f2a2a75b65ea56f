/-
  Packets' bytes, as plain data; what a packet without an error is.
-/
import Derived.Test.YtgmjdelgocbcaabDoorWriterBody
namespace Go.Proofs.YtgmjdelgocbcaabDoor
open Go.RowKit Go.PlainAid

/-- a packet's bytes -/
def encP (p : Pk) : ByteArray := numsS 1 [firstN p] ++ longS (bodyS p).size ++ bodyS p
/-- what Encode answers -/
def encS (p : Pk) : ByteArray := if chkP p = 0 then encP p else ⟨#[]⟩

theorem firstE_ok {α : Type} (f : α → Int) (l : List α) (h : firstE f l = 0) : ∀ a ∈ l, f a = 0 := by
  induction l with
  | nil => simp
  | cons b l ih =>
    simp only [firstE] at h
    split at h
    · rename_i hne; exact absurd h hne
    · rename_i hz
      simp only [ne_eq, Decidable.not_not] at hz
      intro a ha
      rcases List.mem_cons.1 ha with rfl | ha
      · exact hz
      · exact ih h a ha

theorem countE_ok {n : Nat} (h : countE n = 0) : 1 ≤ n ∧ n ≤ 5 := by
  unfold countE at h
  split at h
  · omega
  · split at h <;> omega

theorem wn_asks (p : Pk) (h : ¬ (p.kind = 8 ∨ p.kind = 10)) : (wn p).asks = p.asks := by
  unfold wn
  (repeat' split) <;> first | rfl | (exfalso; omega)
theorem wn_codes (p : Pk) (h : p.kind ≠ 9) : (wn p).codes = p.codes := by
  unfold wn
  (repeat' split) <;> first | rfl | (exfalso; omega)
theorem wn_payload (p : Pk) (h : p.kind ≠ 3) : (wn p).payload = p.payload := by
  unfold wn
  (repeat' split) <;> first | rfl | (exfalso; omega)
theorem wn_qos (p : Pk) (h : p.kind ≠ 3) : (wn p).qos = p.qos := by
  unfold wn
  (repeat' split) <;> first | rfl | (exfalso; omega)

theorem bareB_ok {p : Pk} (h : bareB p = true) : p.dup = false ∧ p.retain = false ∧ p.clean = false ∧ p.session = false ∧ p.qos = 0 ∧ p.id = 0 ∧ p.keep = 0 ∧ p.code = 0 ∧ p.client = ⟨#[]⟩ ∧ p.topic = ⟨#[]⟩ ∧ p.payload = ⟨#[]⟩ ∧ p.asks = [] ∧ p.codes = [] := by
  simp only [bareB, Bool.and_eq_true, Bool.not_eq_true', Bool.or_eq_false_iff, bne_eq_false_iff_eq, Bool.not_eq_false', decide_eq_true_eq, decide_eq_false_iff_not] at h
  obtain ⟨⟨⟨⟨⟨⟨a, b⟩, c⟩, d⟩, ⟨⟨e, f⟩, g⟩, i⟩, ⟨j, k⟩, l⟩, m, n⟩ := h
  exact ⟨a, b, c, d, e, f, g, i, j, k, l, List.length_eq_zero_iff.1 (by omega), List.length_eq_zero_iff.1 (by omega)⟩

/-- what a packet that has no error is -/
theorem chkP_ok {p : Pk} (h : chkP p = 0) : kindB p.kind = true ∧ bareB (wn p) = true ∧ p.payload.size ≤ 200 ∧ p.asks.length ≤ 5 ∧ p.codes.length ≤ 5 ∧ (0 ≤ p.qos ∧ p.qos ≤ 1) := by
  unfold chkP at h
  cases hk : kindB p.kind with
  | false => rw [if_pos hk] at h; simp at h
  | true =>
    rw [if_neg (by simp [hk])] at h
    cases hb : bareB (wn p) with
    | false => rw [if_pos hb] at h; simp at h
    | true =>
      rw [if_neg (by simp [hb])] at h
      have hz := bareB_ok hb
      have ha : ¬ (p.kind = 8 ∨ p.kind = 10) → p.asks = [] := fun x => by rw [← wn_asks p x]; exact hz.2.2.2.2.2.2.2.2.2.2.2.1
      have hc : p.kind ≠ 9 → p.codes = [] := fun x => by rw [← wn_codes p x]; exact hz.2.2.2.2.2.2.2.2.2.2.2.2
      have hp : p.kind ≠ 3 → p.payload = ⟨#[]⟩ := fun x => by rw [← wn_payload p x]; exact hz.2.2.2.2.2.2.2.2.2.2.1
      have hq : p.kind ≠ 3 → p.qos = 0 := fun x => by rw [← wn_qos p x]; exact hz.2.2.2.2.1
      refine ⟨rfl, rfl, ?_, ?_, ?_, ?_⟩
      · by_cases h3 : p.kind = 3
        · rw [if_neg (by omega), if_neg (by omega), if_pos h3] at h
          unfold publishE at h
          split at h
          · rename_i hne; exact absurd h hne
          · split at h
            · simp at h
            · omega
        · rw [hp h3]; decide
      · by_cases h8 : p.kind = 8 ∨ p.kind = 10
        · rw [if_neg (by omega), if_neg (by omega), if_neg (by omega), if_neg (by omega)] at h
          by_cases hid : idE p.id = 0
          · rw [withIdE, if_neg (by simp [hid]), if_pos h8, asksE] at h
            by_cases hz0 : countE p.asks.length = 0
            · exact (countE_ok hz0).2
            · rw [if_pos hz0] at h; exact absurd h hz0
          · rw [withIdE, if_pos hid] at h; exact absurd h hid
        · rw [ha h8]; simp
      · by_cases h9 : p.kind = 9
        · rw [if_neg (by omega), if_neg (by omega), if_neg (by omega), if_neg (by omega)] at h
          by_cases hid : idE p.id = 0
          · rw [withIdE, if_neg (by simp [hid]), if_neg (by omega), if_pos h9, codesE] at h
            by_cases hz0 : countE p.codes.length = 0
            · exact (countE_ok hz0).2
            · rw [if_pos hz0] at h; exact absurd h hz0
          · rw [withIdE, if_pos hid] at h; exact absurd h hid
        · rw [hc h9]; simp
      · by_cases h3 : p.kind = 3
        · rw [if_neg (by omega), if_neg (by omega), if_pos h3] at h
          unfold publishE at h
          split at h
          · rename_i hne; exact absurd h hne
          · split at h
            · simp at h
            · split at h
              · simp at h
              · omega
        · rw [hq h3]; omega

theorem bodyS_size {p : Pk} (h1 : p.payload.size ≤ 200) (h2 : p.asks.length ≤ 5) (h3 : p.codes.length ≤ 5) : (bodyS p).size ≤ 400000 := by
  have hA := asksS_size p.kind p.asks
  have hC := numsS_size 1 p.codes
  have hI := numsS_size 2 [p.id]
  have hK := numsS_size 2 [p.keep]
  have hF := numsS_size 1 [4, flagN p.clean 2]
  have hG := numsS_size 1 [flagN p.session 1, p.code]
  have t1 := txtS_size p.topic
  have t2 := txtS_size p.client
  have t3 := txtS_size ⟨#[77, 81, 84, 84]⟩
  simp only [List.length_cons, List.length_nil] at hI hK hF hG
  unfold bodyS
  split
  · unfold connectS; simp only [ByteArray.size_append]; omega
  · split
    · omega
    · split
      · unfold publishS; simp only [ByteArray.size_append]
        split
        · omega
        · show _ + 0 + _ ≤ _; omega
      · split
        · decide
        · unfold withIdS; simp only [ByteArray.size_append]; omega

theorem Bd.after {N b : Nat} {bs : ByteArray} {w w' : World} (h : Bd N b bs w) (h1 : w'.heap[b]? = w.heap[b]?) (h2 : ∀ k, N ≤ k → w'.heap[k]? = w.heap[k]?) : Bd N b bs w' := by
  obtain ⟨p, v, hp, hb, ho, hne, hz⟩ := h
  exact ⟨p, v, hp, by rw [h1]; exact hb, ownsRowF_of_blocks ho fun g hg => h2 g (ho.lt g hg).1, hne, hz⟩
theorem Bd.block {N b : Nat} {bs : ByteArray} {w : World} (h : Bd N b bs w) : ∃ p v, w.heap[b]? = some (.cells #[p, v] 47 (0, 0)) := by
  obtain ⟨p, v, _, hb, _⟩ := h; exact ⟨p, v, hb⟩
end Go.Proofs.YtgmjdelgocbcaabDoor
