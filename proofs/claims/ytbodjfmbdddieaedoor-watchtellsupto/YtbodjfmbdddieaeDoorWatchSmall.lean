/-
  watch.checkAsker, isNumber, behind, checkOne, clone, isOf and the function literals: what they answer.
-/
import Derived.Test.YtbodjfmbdddieaeDoorWatchMath
import Derived.Deep.QuietTactic
import Derived.BigQuiet
namespace Go.Proofs.YtbodjfmbdddieaeDoor
open Go.RowKit Go.PlainAid

set_option maxHeartbeats 1000000 in
theorem checkAsker_any (p : Int) (t : ByteArray) (w : World) : Calls Tryd.prog 82 #[.int .i64 p, .string t] w fun e w' => e = .returned (.int .i64 (waskE p t)) ∧ Below w.heap.size w w' := by
  unfold waskE
  by_cases h1 : p < 0
  · rw [if_pos (.inl h1)]
    go_enter Tryd.func82, Tryd.ntmps82
    go_wp2
    go_ret
    exact ⟨rfl, Below.refl _ _⟩
  · by_cases h2 : 9 < p
    · rw [if_pos (.inr h2)]
      go_enter Tryd.func82, Tryd.ntmps82
      go_wp2
      go_ret
      exact ⟨rfl, Below.refl _ _⟩
    · rw [if_neg (by omega)]
      by_cases h3 : 8 < t.size
      · rw [if_pos h3]
        have h3' : (8 : Int) < t.size := by omega
        clear h3
        go_enter Tryd.func82, Tryd.ntmps82
        go_wp2
        go_ret
        exact ⟨rfl, Below.refl _ _⟩
      · rw [if_neg h3]
        have h3' : ¬ (8 : Int) < t.size := by omega
        clear h3
        go_enter Tryd.func82, Tryd.ntmps82
        go_wp2
        go_ret
        exact ⟨rfl, Below.refl _ _⟩

set_option maxHeartbeats 1000000 in
theorem isNumber_same (n : Int) (w : World) : Calls Tryd.prog 86 #[.int .i64 n] w fun e w' => e = .returned (.bool (seqOk n)) ∧ w' = w := by
  unfold seqOk
  by_cases h1 : 0 ≤ n
  · go_enter Tryd.func86, Tryd.ntmps86
    go_wp2
    go_ret
    exact ⟨by simp [h1], rfl⟩
  · have hd : (decide (0 ≤ n) && decide (n ≤ 16777215)) = false := by simp; omega
    rw [hd]
    clear hd
    go_enter Tryd.func86, Tryd.ntmps86
    go_wp2
    go_ret
    exact ⟨rfl, rfl⟩
theorem isNumber_any (n : Int) (w : World) : Calls Tryd.prog 86 #[.int .i64 n] w fun e w' => e = .returned (.bool (seqOk n)) ∧ Below w.heap.size w w' := (isNumber_same n w).mono fun _ _ h => ⟨h.1, by rw [h.2]; exact Below.refl _ _⟩

set_option maxHeartbeats 1000000 in
theorem behind_any (n : Int) (w : World) (h : seqOk n = true) : Calls Tryd.prog 84 #[.int .i64 n] w fun e w' => e = .returned (.int .i64 (nextN n)) ∧ w' = w := by
  obtain ⟨a, b⟩ := (seqOk_iff n).1 h
  clear h
  unfold nextN
  by_cases h1 : n = 16777215
  · subst h1
    go_enter Tryd.func84, Tryd.ntmps84
    go_wp2
    go_ret
    exact ⟨rfl, rfl⟩
  · rw [if_neg h1]
    have h1' : (n == 16777215) = false := by simp [h1]
    clear h1
    go_enter Tryd.func84, Tryd.ntmps84
    go_wp2
    go_ret
    exact ⟨rfl, rfl⟩

theorem wt_cells (w : World) (x y z u : Value) : ∀ o, (w.alloc (.cells #[x, y, z, u] 109)).cell? ⟨w.heap.size, o, none⟩ = (#[x, y, z, u] : Array Value)[o]? := fun o => Lib.cell_of_heap (Go.heap_alloc_new w _) o

set_option maxHeartbeats 2000000 in
theorem wcheckOne_any (k : Wt) (w : World) (hm : Max w) : Calls Tryd.prog 78 #[wtV k] w fun e w' => e = .returned (.int .i64 (wchkO k)) ∧ Below w.heap.size w w' := by
  obtain ⟨p, t, n, v⟩ := k
  simp only [wtV]
  generalize hE : wchkO ⟨p, t, n, v⟩ = E
  unfold wchkO at hE
  simp only at hE
  have HE := hide hE
  clear hE
  have CA : Hid (∀ W, Calls Tryd.prog 82 #[.int .i64 p, .string t] W fun e w' => e = .returned (.int .i64 (waskE p t)) ∧ Below W.heap.size W w') := fun W => checkAsker_any p t W
  have CN : Hid (∀ W, Calls Tryd.prog 86 #[.int .i64 v] W fun e w' => e = .returned (.bool (seqOk v)) ∧ Below W.heap.size W w') := fun W => isNumber_any v W
  have C : Hid (∀ W, Below w.heap.size w W → Calls Tryd.prog 44 #[.string n] W fun e w' => e = .returned (.int .i64 (chk nameF n)) ∧ Below W.heap.size W w') := fun W h => name_max n W (hm.below h)
  have HB := hide ((Below.refl w.heap.size w).alloc (Nat.le_refl _) (.cells #[.int .i64 p, .string t, .string n, .int .i64 v] 109))
  have d0 := wt_cells w (.int .i64 p) (.string t) (.string n) (.int .i64 v)
  have hz : w.heap.size < (w.alloc (.cells #[.int .i64 p, .string t, .string n, .int .i64 v] 109)).heap.size := by simp
  clear hm
  revert HE C CA CN
  generalize chk nameF n = N
  generalize waskE p t = A
  generalize seqOk v = B
  intro HE CA CN C
  go_enter Tryd.func78, Tryd.ntmps78
  go_wp2_with fail
  refine (CA.out _).mono ?_
  rintro e w1 ⟨rfl, hb1⟩
  have HB1 := hide (below_step HB.out hb1)
  have d1 : ∀ o, w1.cell? ⟨w.heap.size, o, none⟩ = (#[.int .i64 p, .string t, .string n, .int .i64 v] : Array Value)[o]? := fun o => (hb1.cell (p := ⟨w.heap.size, o, none⟩) hz).trans (d0 o)
  have hz1 : w.heap.size < w1.heap.size := Nat.lt_of_lt_of_le hz hb1.size
  clear hb1 d0 hz HB CA
  by_cases h1 : A = 0
  · have h1' : (A != 0) = false := by simp [h1]
    have HE1 : Hid (_ = E) := (if_neg (by simp [h1])).symm.trans HE.out
    clear HE h1
    go_wp2_with fail
    refine (C.out _ HB1.out).mono ?_
    rintro e w2 ⟨rfl, hb2⟩
    have HB2 := hide (below_step HB1.out hb2)
    have d2 : ∀ o, w2.cell? ⟨w.heap.size, o, none⟩ = (#[.int .i64 p, .string t, .string n, .int .i64 v] : Array Value)[o]? := fun o => (hb2.cell (p := ⟨w.heap.size, o, none⟩) hz1).trans (d1 o)
    clear hb2 d1 hz1 HB1 C
    by_cases h2 : N = 0
    · have h2' : (N != 0) = false := by simp [h2]
      have HE2 : Hid (_ = E) := (if_neg (by simp [h2])).symm.trans HE1.out
      clear HE1 h2
      cases B with
      | true =>
        have HQ : Hid (E = 0) := by rw [← HE2.out, if_neg (by simp)]; exact rfl
        go_wp2_with fail
        refine (CN.out _).mono ?_
        rintro e w3 ⟨rfl, hb3⟩
        have HB3 := hide (below_step HB2.out hb3)
        clear hb3
        go_wp2
        go_ret
        exact ⟨by rw [HQ.out]; rfl, HB3.out⟩
      | false =>
        have HQ : Hid (E = 3) := by rw [← HE2.out, if_pos rfl]; exact rfl
        go_wp2_with fail
        refine (CN.out _).mono ?_
        rintro e w3 ⟨rfl, hb3⟩
        have HB3 := hide (below_step HB2.out hb3)
        clear hb3
        go_wp2
        go_ret
        exact ⟨by rw [HQ.out]; rfl, HB3.out⟩
    · have h2' : (N != 0) = true := by simp [h2]
      have HQ : Hid (E = N) := by rw [← HE1.out, if_pos h2]; exact rfl
      clear HE1 h2
      go_wp2
      go_ret
      exact ⟨by rw [HQ.out]; rfl, HB2.out⟩
  · have h1' : (A != 0) = true := by simp [h1]
    have HQ : Hid (E = A) := by rw [← HE.out, if_pos h1]; exact rfl
    clear HE h1
    go_wp2
    go_ret
    exact ⟨by rw [HQ.out]; rfl, HB1.out⟩


/-- the two boxes of a peer and a token -/
structure Asks (c : Nat) (p : Int) (t : ByteArray) (w : World) : Prop where
  b0 : w.cell? ⟨c, 0, none⟩ = some (.int .i64 p)
  b1 : w.cell? ⟨c + 1, 0, none⟩ = some (.string t)
  lt : c + 1 < w.heap.size
theorem Asks.below {c : Nat} {p : Int} {t : ByteArray} {w w' : World} (h : Asks c p t w) (hb : Below w.heap.size w w') : Asks c p t w' :=
  ⟨(hb.cell (p := ⟨c, 0, none⟩) (Nat.lt_of_succ_lt h.lt)).trans h.b0, (hb.cell (p := ⟨c + 1, 0, none⟩) h.lt).trans h.b1, Nat.lt_of_lt_of_le h.lt hb.size⟩
theorem asks_mk (w : World) (p : Int) (t : ByteArray) : Asks w.heap.size p t ((w.alloc (.cells #[.int .i64 p] 3)).alloc (.cells #[.string t] 9)) := by
  refine ⟨?_, ?_, by simp⟩
  · exact (World.cell?_alloc_old _ _ _ (by show w.heap.size ≠ _; simp)).trans (Lib.cell_of_heap (Go.heap_alloc_new w _) 0)
  · have e : w.heap.size + 1 = (w.alloc (.cells #[.int .i64 p] 3)).heap.size := by simp
    rw [e]
    exact Lib.cell_of_heap (Go.heap_alloc_new (w.alloc (.cells #[.int .i64 p] 3)) (.cells #[.string t] 9)) 0

set_option maxHeartbeats 1000000 in
theorem isOf_any (p : Int) (t : ByteArray) (w : World) : Calls Tryd.prog 80 #[.int .i64 p, .string t] w fun e w' => e = .returned (.func (.func 112) #[] #[.pointer (some ⟨w.heap.size, 0, none⟩), .pointer (some ⟨w.heap.size + 1, 0, none⟩)]) ∧ Asks w.heap.size p t w' ∧ Below w.heap.size w w' := by
  have HA := hide (asks_mk w p t)
  have HB := hide (((Below.refl w.heap.size w).alloc (Nat.le_refl _) (.cells #[.int .i64 p] 3)).alloc (by simp) (.cells #[.string t] 9))
  go_enter Tryd.func80, Tryd.ntmps80
  go_wp2
  go_ret
  exact ⟨by simp, HA.out, HB.out⟩

set_option maxHeartbeats 1000000 in
theorem lit_isOf (k : Wt) (c : Nat) (p : Int) (t : ByteArray) (w : World) (h : Asks c p t w) : Calls Tryd.prog 112 #[wtV k, .pointer (some ⟨c, 0, none⟩), .pointer (some ⟨c + 1, 0, none⟩)] w fun e w' => e = .returned (.bool (isW p t k)) ∧ Below w.heap.size w w' := by
  obtain ⟨x, y, z, u⟩ := k
  obtain ⟨b0, b1, hz⟩ := h
  simp only [wtV, isW]
  have HB := hide ((Below.refl w.heap.size w).alloc (Nat.le_refl _) (.cells #[.int .i64 x, .string y, .string z, .int .i64 u] 109))
  have hne : c ≠ w.heap.size := by omega
  have hne1 : c + 1 ≠ w.heap.size := by omega
  have HT := hide (txt_eq y t)
  have q0 := (World.cell?_alloc_old w (.cells #[.int .i64 x, .string y, .string z, .int .i64 u] 109) ⟨c, 0, none⟩ (by show c ≠ _; exact hne)).trans b0
  have q1 := (World.cell?_alloc_old w (.cells #[.int .i64 x, .string y, .string z, .int .i64 u] 109) ⟨c + 1, 0, none⟩ (by show c + 1 ≠ _; exact hne1)).trans b1
  generalize hcc : c + 1 = c1 at *
  clear hcc hz
  by_cases h1 : x = p
  · subst h1
    have h1' : (x == x) = true := by simp
    go_enter Tryd.func112, Tryd.ntmps112
    go_wp2
    go_ret
    exact ⟨by rw [← HT.out]; simp, HB.out⟩
  · have h1' : (x == p) = false := by simp [h1]
    have h1d : decide (x = p) = false := by simp [h1]
    rw [h1d]
    clear h1 h1d
    go_enter Tryd.func112, Tryd.ntmps112
    go_wp2
    go_ret
    exact ⟨rfl, HB.out⟩
set_option maxHeartbeats 1000000 in
theorem lit_none (k : Wt) (w : World) : Calls Tryd.prog 83 #[wtV k] w fun e w' => e = .returned (.bool false) ∧ Below w.heap.size w w' := by
  obtain ⟨x, y, z, u⟩ := k
  simp only [wtV]
  have HB := hide ((Below.refl w.heap.size w).alloc (Nat.le_refl _) (.cells #[.int .i64 x, .string y, .string z, .int .i64 u] 109))
  go_enter Tryd.func83, Tryd.ntmps83
  go_wp2
  go_ret
  exact ⟨rfl, HB.out⟩
set_option maxHeartbeats 1000000 in
theorem lit_other (k : Wt) (c : Nat) (n : ByteArray) (w : World) (hc : w.cell? ⟨c, 0, none⟩ = some (.string n)) (hz : c < w.heap.size) : Calls Tryd.prog 85 #[wtV k, .pointer (some ⟨c, 0, none⟩)] w fun e w' => e = .returned (.bool (!ofT n k)) ∧ Below w.heap.size w w' := by
  obtain ⟨x, y, z, u⟩ := k
  simp only [wtV, ofT]
  have HB := hide ((Below.refl w.heap.size w).alloc (Nat.le_refl _) (.cells #[.int .i64 x, .string y, .string z, .int .i64 u] 109))
  have hne : c ≠ w.heap.size := by omega
  have HT := hide (txt_eq z n)
  go_enter Tryd.func85, Tryd.ntmps85
  go_wp2
  go_ret
  exact ⟨by rw [← HT.out]; rfl, HB.out⟩
end Go.Proofs.YtbodjfmbdddieaeDoor
