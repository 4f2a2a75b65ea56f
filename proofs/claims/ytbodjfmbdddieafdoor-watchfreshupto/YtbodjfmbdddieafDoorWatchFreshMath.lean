/-
  Watches that are told again and again: plain facts (no program in it).
-/
import Derived.Test.YtbodjfmbdddieafDoorWatchMath
namespace Go.Proofs.YtbodjfmbdddieafDoor
open Go.RowKit Go.PlainAid

def addN (i : Nat) (v : Int) : Int := if v + i ≤ 16777215 then v + i else v + i - 16777216
theorem addN_zero {v : Int} (h : seqOk v = true) : addN 0 v = v := by
  rw [seqOk_iff] at h
  unfold addN
  rw [if_pos (by omega)]
  omega
theorem addN_ok {i : Nat} {v : Int} (h : seqOk v = true) (hi : i ≤ 100) : seqOk (addN i v) = true := by
  rw [seqOk_iff] at *
  unfold addN
  split <;> omega
theorem addN_next {i : Nat} {v : Int} (h : seqOk v = true) (hi : i < 100) : nextN (addN i v) = addN (i + 1) v := by
  rw [seqOk_iff] at h
  unfold addN nextN
  split <;> split <;> split <;> omega
theorem fre_yes {a b : Int} (ha : seqOk a = true) (hb : seqOk b = true) (h : (0 < b - a ∧ b - a < 8388608) ∨ b - a < -8388608) : freE a b = 0 ∧ freB a b = true := by
  obtain ⟨h1, h2⟩ := fre_two ha hb
  exact ⟨h1, by rw [h2]; simp; omega⟩
theorem fre_no {a b : Int} (ha : seqOk a = true) (hb : seqOk b = true) (h : ¬ ((0 < b - a ∧ b - a < 8388608) ∨ b - a < -8388608)) : freE a b = 0 ∧ freB a b = false := by
  obtain ⟨h1, h2⟩ := fre_two ha hb
  exact ⟨h1, by rw [h2]; simp; omega⟩
/-- what is told is fresh behind what was told, and behind the first one, and not the other way round -/
theorem fre_all {i : Nat} {v : Int} (h : seqOk v = true) (hi : i < 50) :
    (freE (addN i v) (addN (i + 1) v) = 0 ∧ freB (addN i v) (addN (i + 1) v) = true) ∧ (freE v (addN (i + 1) v) = 0 ∧ freB v (addN (i + 1) v) = true) ∧ (freE (addN (i + 1) v) v = 0 ∧ freB (addN (i + 1) v) v = false) := by
  have a1 := addN_ok (i := i) h (by omega)
  have a2 := addN_ok (i := i + 1) h (by omega)
  have hv := (seqOk_iff v).1 h
  have e1 : addN i v = v + i ∨ addN i v = v + i - 16777216 ∧ 16777215 < v + i := by unfold addN; split <;> omega
  have e2 : addN (i + 1) v = v + i + 1 ∨ addN (i + 1) v = v + i + 1 - 16777216 ∧ 16777215 < v + i + 1 := by unfold addN; split <;> omega
  have r1 := (seqOk_iff _).1 a1
  have r2 := (seqOk_iff _).1 a2
  exact ⟨fre_yes a1 a2 (by omega), fre_yes h a2 (by omega), fre_no a2 h (by omega)⟩

def upI (n : ByteArray) (i : Nat) (k : Wt) : Wt := ⟨k.peer, k.token, k.topic, if k.topic = n then addN i k.num else k.num⟩
def telI (l : List Wt) (n : ByteArray) (i : Nat) : List Wt := l.map (upI n i)
theorem telI_len (l : List Wt) (n : ByteArray) (i : Nat) : (telI l n i).length = l.length := by simp [telI]
theorem nums_of {l : List Wt} (h : wchkK l = 0) : ∀ k ∈ l, seqOk k.num = true := fun k hk => (wchkO_parts (((wchkK_iff l).1 h).2.1 k hk)).2.2
theorem telI_zero {l : List Wt} (h : wchkK l = 0) (n : ByteArray) : telI l n 0 = l := by
  unfold telI
  have : ∀ k ∈ l, upI n 0 k = k := fun k hk => by
    unfold upI
    rw [addN_zero (nums_of h k hk)]
    simp
  rw [List.map_congr_left this]
  simp
theorem telI_next {l : List Wt} (h : wchkK l = 0) (n : ByteArray) {i : Nat} (hi : i < 100) : telL (telI l n i) n = telI l n (i + 1) := by
  unfold telL telI
  rw [List.map_map]
  refine List.map_congr_left fun k hk => ?_
  have e := addN_next (nums_of h k hk) hi
  unfold upI upW
  by_cases ht : k.topic = n
  · simp [ht, e]
  · simp [ht]
theorem telI_check {l : List Wt} (h : wchkK l = 0) (n : ByteArray) : ∀ {i : Nat}, i ≤ 100 → wchkK (telI l n i) = 0
  | 0, _ => by rw [telI_zero h]; exact h
  | i + 1, hi => by rw [← telI_next h n (by omega)]; exact tel_check (telI_check h n (by omega)) n
theorem telI_at (l : List Wt) (n : ByteArray) (i j : Nat) (h : j < (telI l n i).length) : (telI l n i)[j] = upI n i (l[j]'(by rw [telI_len] at h; exact h)) := by simp [telI]

/-- how many of the first ones have a topic -/
def cntT (n : ByteArray) (x : List Wt) (j : Nat) : Nat := ((x.take j).filter (ofT n)).length
theorem cntT_zero (n : ByteArray) (x : List Wt) : cntT n x 0 = 0 := by simp [cntT]
theorem cntT_hit {n : ByteArray} {x : List Wt} {j : Nat} (h : j < x.length) (hj : ofT n x[j] = true) : cntT n x (j + 1) = cntT n x j + 1 := by
  unfold cntT
  rw [List.take_succ_eq_append_getElem h, List.filter_append]
  simp [hj]
theorem cntT_miss {n : ByteArray} {x : List Wt} {j : Nat} (h : j < x.length) (hj : ofT n x[j] = false) : cntT n x (j + 1) = cntT n x j := by
  unfold cntT
  rw [List.take_succ_eq_append_getElem h, List.filter_append]
  simp [hj]
theorem cntT_end {n : ByteArray} {x : List Wt} {j : Nat} (h : x.length ≤ j) : cntT n x j = (x.filter (ofT n)).length := by
  unfold cntT
  rw [List.take_of_length_le h]
theorem cntT_at {n : ByteArray} {x : List Wt} {j : Nat} (h : j < x.length) (hj : ofT n x[j] = true) : ∃ hk : cntT n x j < (x.filter (ofT n)).length, (x.filter (ofT n))[cntT n x j] = x[j] := by
  have e : x.filter (ofT n) = (x.take j).filter (ofT n) ++ x[j] :: (x.drop (j + 1)).filter (ofT n) := by
    conv => lhs; rw [← List.take_append_drop j x, List.drop_eq_getElem_cons h]
    rw [List.filter_append, List.filter_cons, if_pos hj]
  refine ⟨by rw [e]; simp [cntT], ?_⟩
  simp only [e, cntT]
  simp
end Go.Proofs.YtbodjfmbdddieafDoor
