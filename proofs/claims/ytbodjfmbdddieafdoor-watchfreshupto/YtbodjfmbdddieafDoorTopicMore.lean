/-
  topic.takesIn, spelled, Match and Covers: what they answer.
-/
import Derived.Test.YtbodjfmbdddieafDoorTopicCheck
namespace Go.Proofs.YtbodjfmbdddieafDoor
open Go.RowKit Go.PlainAid

/-- a filter for the same topics, in which a last # is also for none -/
def spell (s : ByteArray) : ByteArray := if s = ⟨#[35]⟩ then ⟨#[43, 47, 35]⟩ else if s = ⟨#[47, 35]⟩ then ⟨#[47, 43, 47, 35]⟩ else s

theorem spell_size (s : ByteArray) (h : s.size ≤ 60) : (spell s).size ≤ 60 := by
  unfold spell; split
  · decide
  · split
    · decide
    · exact h

/-- what Match answers -/
def matchB (a b : ByteArray) : Bool := decide (chk filtF a = 0) && decide (chk nameF b = 0) && takes (LV a) (LV b)
def matchE (a b : ByteArray) : Int := if chk filtF a = 0 then chk nameF b else chk filtF a
/-- what Covers answers -/
def covB (a b : ByteArray) : Bool := decide (chk filtF a = 0) && decide (chk filtF b = 0) && takes (LV a) (LV (spell b))
def covE (a b : ByteArray) : Int := if chk filtF a = 0 then chk filtF b else chk filtF a

theorem chk_ok {p : ByteArray → Bool → Bool} {s : ByteArray} (h : chk p s = 0) : s.size ≤ 60 ∧ 0 < s.size ∧ (LV s).length ≤ 6 ∧ okTo p (LV s) (LV s).length (LV s).length = true := by
  unfold chk at h
  by_cases h0 : s.size = 0
  · rw [if_pos h0] at h; omega
  · rw [if_neg h0] at h
    by_cases h1 : 60 < s.size
    · rw [if_pos h1] at h; omega
    · rw [if_neg h1] at h
      by_cases h2 : 6 < (LV s).length
      · rw [if_pos h2] at h; omega
      · rw [if_neg h2] at h
        by_cases h3 : okTo p (LV s) (LV s).length (LV s).length = true
        · exact ⟨by omega, by omega, by omega, h3⟩
        · rw [if_neg h3] at h; omega

/-- the cell that the library's search reads: some number -/
def Max (w : World) : Prop := 0 < w.heap.size ∧ ∃ m, w.cell? ⟨0, 0, none⟩ = some (.int .i64 m)
theorem Max.below {w w' : World} (h : Max w) (hb : Below w.heap.size w w') : Max w' := by
  obtain ⟨h0, m, hm⟩ := h
  exact ⟨Nat.lt_of_lt_of_le h0 hb.size, m, by rw [hb.cell (by exact h0)]; exact hm⟩
theorem Max.alloc {w : World} (h : Max w) (o : Obj) : Max (w.alloc o) := h.below ((Below.refl _ w).alloc (Nat.le_refl _) o)

theorem cells_first (w : World) (L K : List ByteArray) (t : TypeId) : ∀ k (h : k < L.length), ((w.alloc (.cells (L.map Value.string).toArray t)).alloc (.cells (K.map Value.string).toArray t)).cell? ⟨w.heap.size, k, none⟩ = some (.string L[k]) := by
  intro k h
  rw [World.cell?_alloc_past _ _ _ (by simp), World.cell?_alloc_at _ _ _ _ rfl]
  simp [List.getElem?_eq_getElem h]
theorem cells_second (w : World) (L K : List ByteArray) (t : TypeId) : ∀ k (h : k < K.length), ((w.alloc (.cells (L.map Value.string).toArray t)).alloc (.cells (K.map Value.string).toArray t)).cell? ⟨w.heap.size + 1, k, none⟩ = some (.string K[k]) := by
  intro k h
  rw [World.cell?_alloc_at _ _ _ _ (by simp)]
  simp [List.getElem?_eq_getElem h]

theorem LV_len60 (s : ByteArray) (h : s.size ≤ 60) : (LV s).length ≤ 61 := by
  have := LV_length s
  have h2 := Lib.countB_le ⟨#[47]⟩ (by decide) s.size s (Nat.le_refl _)
  omega

end Go.Proofs.YtbodjfmbdddieafDoor
/-
  topic.Covers: what it answers; dragomanlaw.topicBegun answers true.
-/
namespace Go.Proofs.YtbodjfmbdddieafDoor
open Go.RowKit Go.PlainAid

theorem name_max (s : ByteArray) (w : World) (hm : Max w) :
    Calls Tryd.prog 19 #[.string s] w fun e w' => e = .returned (.int .i64 (chk nameF s)) ∧ Below w.heap.size w w' := by
  obtain ⟨m, h⟩ := hm.2; exact name_any s m w h
theorem b_n1 (w : World) (hm : Max w) : Calls Tryd.prog 19 #[.string ⟨#[97, 47, 98]⟩] w fun e w' => e = .returned (.int .i64 0) ∧ Below w.heap.size w w' := by
  have := name_max ⟨#[97, 47, 98]⟩ w hm
  rwa [show chk nameF ⟨#[97, 47, 98]⟩ = 0 by decide +kernel] at this
theorem b_n2 (w : World) (hm : Max w) : Calls Tryd.prog 19 #[.string ⟨#[97, 47, 43]⟩] w fun e w' => e = .returned (.int .i64 1) ∧ Below w.heap.size w w' := by
  have := name_max ⟨#[97, 47, 43]⟩ w hm
  rwa [show chk nameF ⟨#[97, 47, 43]⟩ = 1 by decide +kernel] at this

end Go.Proofs.YtbodjfmbdddieafDoor
