/-
  A list's plain facts: what comes of it, in order; where a topic stands. (No program in it.)
-/
import Derived.Test.YtcldjoklkbbbgadDoorKeepBegun
import Derived.Test.YtcldjoklkbbbgadDoorTopicCoversMath
namespace Go.Proofs.YtcldjoklkbbbgadDoor
open Go.RowKit Go.PlainAid

def atF (n : ByteArray) : Nat → List Kp → Int
  | _, [] => -1
  | i, k :: l => if k.topic = n then i else atF n (i + 1) l
theorem atF_step (n : ByteArray) (l : List Kp) (k : Nat) (h : k < l.length) : atF n k (l.drop k) = if l[k].topic = n then (k : Int) else atF n (k + 1) (l.drop (k + 1)) := by
  rw [List.drop_eq_getElem_cons h, atF]
theorem atF_in (n : ByteArray) : ∀ (l : List Kp) (i : Nat), (∃ k ∈ l, k.topic = n) → 0 ≤ atF n i l
  | [], _, h => by obtain ⟨k, hk, _⟩ := h; simp at hk
  | x :: l, i, h => by
    rw [atF]
    split
    · omega
    · rename_i hx
      refine atF_in n l (i + 1) ?_
      obtain ⟨k, hk, hn⟩ := h
      rcases List.mem_cons.1 hk with rfl | hk
      · exact absurd hn hx
      · exact ⟨k, hk, hn⟩

/-- what comes of the first ones, and the one behind them -/
theorem filter_at (f : Kp → Bool) (l : List Kp) (k : Nat) (h : k < l.length) (hf : f l[k] = true) : ∃ h2 : ((l.take k).filter f).length < (l.filter f).length, (l.filter f)[((l.take k).filter f).length] = l[k] := by
  have e : l.filter f = (l.take k).filter f ++ (l[k] :: (l.drop (k + 1)).filter f) := by
    conv => lhs; rw [← List.take_append_drop k l, List.filter_append, List.drop_eq_getElem_cons h, List.filter_cons_of_pos hf]
  have h2 : ((l.take k).filter f).length < (l.filter f).length := by
    have := congrArg List.length e
    simp at this
    omega
  refine ⟨h2, ?_⟩
  have h3 : (l.filter f)[((l.take k).filter f).length]? = some l[k] := by
    conv => lhs; rw [e]
    simp
  rw [List.getElem?_eq_getElem h2] at h3
  exact Option.some.inj h3
theorem list_ok {l : List Kp} {a : ByteArray} (h : listE l a = 0) : chkK l = 0 ∧ chk filtF a = 0 ∧ listA l a = l.filter (forT a) := by
  refine ⟨?_, ?_, if_pos h⟩
  · unfold listE allE at h
    split at h
    · rename_i h4; exact absurd h h4
    · rename_i h4; exact Decidable.not_not.1 h4
  · unfold listE allE at h
    split at h
    · rename_i h4; exact absurd h h4
    · exact h
end Go.Proofs.YtcldjoklkbbbgadDoor
