/-
  block.isSize, room, Cut: what they answer.
-/
import Derived.Test.YtcldjoklkbbbgadBlkMath
import Derived.Test.YtcldjoklkbbbgadTopicMath
import Derived.Test.YtcldjoklkbbbgadShelf
import Derived.Test.YtcldjoklkbbbgadRows
import Derived.WalkKit
import Derived.ProofKit
import Derived.WalkSpells
import Derived.WalkLawsBesides
import Derived.Handy
namespace Go.Proofs.Ytcldjoklkbbbgad
open Go.RowKit Go.PlainAid

theorem bclone_any (s : ByteArray) (w : World) (h : s.size ≤ 281474976710656) :
    Calls Try.prog 15 #[.string s] w fun e w' => e = .returned (.string s) ∧ Below w.heap.size w w' := by
  go_enter Try.func15, Try.ntmps15
  go_wp2_with (go_at_call 22; refine (Try.stringslite_Clone _ _ h).mono ?_; rintro e w1 ⟨rfl, hb⟩)
  go_ret
  exact ⟨rfl, hb⟩

theorem isSize_any (s : Int) (w : World) : Calls Try.prog 13 #[.int .i64 s] w fun e w' => e = .returned (.bool (szOk s)) ∧ w' = w := by
  by_cases h1 : 0 ≤ s
  · go_enter Try.func13, Try.ntmps13
    go_wp2
    go_ret
    exact ⟨by simp [szOk, h1], rfl⟩
  · have hd : decide (0 ≤ s) = false := by simpa using h1
    go_enter Try.func13, Try.ntmps13
    go_wp2
    go_ret
    exact ⟨by simp [szOk, hd], rfl⟩

theorem sz_cases {s : Int} (h0 : 0 ≤ s) (h6 : s ≤ 6) : s = 0 ∨ s = 1 ∨ s = 2 ∨ s = 3 ∨ s = 4 ∨ s = 5 ∨ s = 6 := by omega

set_option maxHeartbeats 1000000 in
theorem room_any (s : Int) (w : World) (h0 : 0 ≤ s) (h6 : s ≤ 6) : Calls Try.prog 14 #[.int .i64 s] w fun e w' => e = .returned (.int .i64 (room s)) ∧ w' = w := by
  rcases sz_cases h0 h6 with rfl | rfl | rfl | rfl | rfl | rfl | rfl
  all_goals
    clear h0 h6
    go_enter Try.func14, Try.ntmps14
    go_wp2
    go_ret
    exact ⟨rfl, rfl⟩

theorem three_cells (w : World) (x y z : Value) : ∀ o, (w.alloc (.cells #[x, y, z] 25)).cell? ⟨w.heap.size, o, none⟩ = (#[x, y, z] : Array Value)[o]? := fun o => Lib.cell_of_heap (Go.heap_alloc_new w _) o
theorem three_below {w w' : World} {N b : Nat} (h : Below N w w') (hb : N ≤ b) (x y z : Value) : Below N w (((w'.setCell ⟨b, 0, none⟩ x).setCell ⟨b, 1, none⟩ y).setCell ⟨b, 2, none⟩ z) := ((h.setCell (p := ⟨b, 0, none⟩) hb x).setCell (p := ⟨b, 1, none⟩) hb y).setCell (p := ⟨b, 2, none⟩) hb z

set_option maxHeartbeats 1000000 in
theorem cut_many (p : ByteArray) (n s : Int) (w : World) (h : 200 < p.size) :
    Calls Try.prog 8 #[.string p, .int .i64 n, .int .i64 s] w fun e w' => e = .returned (.tuple #[.string ⟨#[]⟩, bkV bkZ, .int .i64 2]) ∧ Below w.heap.size w w' := by
  have h' : (200 : Int) < p.size := by omega
  have z0 := three_cells w (.int .i64 0) (.bool false) (.int .i64 0)
  have HB := hide ((Below.refl w.heap.size w).alloc (Nat.le_refl _) (.cells #[.int .i64 0, .bool false, .int .i64 0] 25))
  clear h
  go_enter Try.func8, Try.ntmps8
  go_wp2
  exact bodyPost_ret (v := .tuple #[.string ⟨#[]⟩, bkV bkZ, .int .i64 2]) (by simp [results, Try.results8, go_sem, bkV, bkZ, z0]) rfl ⟨rfl, HB.out⟩

set_option maxHeartbeats 1000000 in
theorem cut_range (p : ByteArray) (n s : Int) (w : World) (h : p.size ≤ 200) (h2 : szOk s = false ∨ n < 0) :
    Calls Try.prog 8 #[.string p, .int .i64 n, .int .i64 s] w fun e w' => e = .returned (.tuple #[.string ⟨#[]⟩, bkV bkZ, .int .i64 3]) ∧ Below w.heap.size w w' := by
  have h' : (p.size : Int) ≤ 200 := by omega
  have z0 := three_cells w (.int .i64 0) (.bool false) (.int .i64 0)
  have HB := hide ((Below.refl w.heap.size w).alloc (Nat.le_refl _) (.cells #[.int .i64 0, .bool false, .int .i64 0] 25))
  have C := hide (fun W => isSize_any s W)
  clear h
  revert C h2
  generalize szOk s = B
  intro h2 C
  cases B with
  | false =>
    clear h2
    go_enter Try.func8, Try.ntmps8
    go_wp2_with fail
    refine (C.out _).mono ?_
    rintro e w1 ⟨rfl, h1⟩
    subst h1
    go_wp2
    exact bodyPost_ret (v := .tuple #[.string ⟨#[]⟩, bkV bkZ, .int .i64 3]) (by simp [results, Try.results8, go_sem, bkV, bkZ, z0]) rfl ⟨rfl, HB.out⟩
  | true =>
    have h3 : n < 0 := by simpa using h2
    clear h2
    go_enter Try.func8, Try.ntmps8
    go_wp2_with fail
    refine (C.out _).mono ?_
    rintro e w1 ⟨rfl, h1⟩
    subst h1
    go_wp2
    exact bodyPost_ret (v := .tuple #[.string ⟨#[]⟩, bkV bkZ, .int .i64 3]) (by simp [results, Try.results8, go_sem, bkV, bkZ, z0]) rfl ⟨rfl, HB.out⟩

theorem max0 (n : Nat) : max ((n : Int) - 1) 0 = ((n - 1 : Nat) : Int) := by omega
theorem last_quo (n : Nat) (s : Int) : max ((n : Int) - 1) 0 / (room s : Int) = (lastB n s : Int) := by
  rw [max0]; rfl

set_option maxHeartbeats 1000000 in
theorem cut_none (p : ByteArray) (n s : Int) (w : World) (h : p.size ≤ 200) (h0 : 0 ≤ s) (h6 : s ≤ 6) (hn : 0 ≤ n) (hl : (lastB p.size s : Int) < n) :
    Calls Try.prog 8 #[.string p, .int .i64 n, .int .i64 s] w fun e w' => e = .returned (.tuple #[.string ⟨#[]⟩, bkV bkZ, .int .i64 5]) ∧ Below w.heap.size w w' := by
  have h' : (p.size : Int) ≤ 200 := by omega
  have z0 := three_cells w (.int .i64 0) (.bool false) (.int .i64 0)
  have HB := hide ((Below.refl w.heap.size w).alloc (Nat.le_refl _) (.cells #[.int .i64 0, .bool false, .int .i64 0] 25))
  have C : Hid (∀ W, Calls Try.prog 13 #[.int .i64 s] W fun e w' => e = .returned (.bool true) ∧ w' = W) := fun W => by
    have := isSize_any s W
    rwa [szOk_iff.2 ⟨h0, h6⟩] at this
  have CR := hide (fun W => room_any s W h0 h6)
  have r1 : (16 : Int) ≤ room s := by have := room_ge s; omega
  have r2 : (room s : Int) ≤ 1024 := by have := room_le h6; omega
  have HQ := hide (last_quo p.size s)
  have q2 : (lastB p.size s : Int) ≤ 12 := by have := lastB_le p.size s h; omega
  clear h
  revert CR r1 r2 HQ hl q2
  generalize lastB p.size s = L
  generalize room s = R
  intro hl CR r1 r2 HQ q2
  have q0 : max ((p.size : Int) - 1) 0 / (R : Int) < n := by rw [HQ.out]; omega
  go_enter Try.func8, Try.ntmps8
  go_wp2_with fail
  refine (C.out _).mono ?_
  rintro e w1 ⟨rfl, h1⟩
  subst h1
  go_wp2_with fail
  refine (CR.out _).mono ?_
  rintro e w1 ⟨rfl, h1⟩
  subst h1
  go_wp2
  exact bodyPost_ret (v := .tuple #[.string ⟨#[]⟩, bkV bkZ, .int .i64 5]) (by simp [results, Try.results8, go_sem, bkV, bkZ, z0]) rfl ⟨rfl, HB.out⟩

theorem cut_to (p : ByteArray) (k : Nat) (s : Int) : p.extract (k * room s) (min ((k : Int) * room s + room s) p.size).toNat = cutS p k s := by
  unfold cutS
  congr 1
  rw [Int.toNat_natCast]
  have : ((k * room s : Nat) : Int) = (k : Int) * room s := Int.natCast_mul _ _
  rw [← this]
  omega

set_option maxHeartbeats 1000000 in
theorem cut_ok (p : ByteArray) (k : Nat) (s : Int) (w : World) (h : p.size ≤ 200) (h0 : 0 ≤ s) (h6 : s ≤ 6) (hl : k ≤ lastB p.size s) :
    Calls Try.prog 8 #[.string p, .int .i64 k, .int .i64 s] w fun e w' => e = .returned (.tuple #[.string (cutS p k s), bkV (cutB p k s), .int .i64 0]) ∧ Below w.heap.size w w' := by
  have h' : (p.size : Int) ≤ 200 := by omega
  have HB := hide ((Below.refl w.heap.size w).alloc (Nat.le_refl _) (.cells #[.int .i64 0, .bool false, .int .i64 0] 25))
  have z0 := three_cells w (.int .i64 0) (.bool false) (.int .i64 0)
  have hsz : w.heap.size < (w.alloc (.cells #[.int .i64 0, .bool false, .int .i64 0] 25)).heap.size := by simp
  have C : Hid (∀ W, Calls Try.prog 13 #[.int .i64 s] W fun e w' => e = .returned (.bool true) ∧ w' = W) := fun W => by
    have := isSize_any s W
    rwa [szOk_iff.2 ⟨h0, h6⟩] at this
  have CR := hide (fun W => room_any s W h0 h6)
  have r1 : (16 : Int) ≤ room s := by have := room_ge s; omega
  have r2 : (room s : Int) ≤ 1024 := by have := room_le h6; omega
  have HQ := hide (last_quo p.size s)
  have q2 : (lastB p.size s : Int) ≤ 12 := by have := lastB_le p.size s h; omega
  have q3 : (k : Int) * room s ≤ p.size := by
    have h1 := cut_from hl
    have : ((k * room s : Nat) : Int) = (k : Int) * room s := Int.natCast_mul _ _
    omega
  have q4 : 0 ≤ (k : Int) * room s := by
    have : ((k * room s : Nat) : Int) = (k : Int) * room s := Int.natCast_mul _ _
    omega
  have HT := hide (cut_to p k s)
  have HT2 : Hid ((k : Int) * room s = ((k * room s : Nat) : Int)) := (Int.natCast_mul _ _).symm
  have hls := cutS_le p k s
  have CC := hide (fun W => bclone_any (cutS p k s) W (by omega))
  have HBV : Hid (bkV (cutB p k s) = .agg #[.int .i64 k, .bool (decide ((k : Int) < lastB p.size s)), .int .i64 s]) := rfl
  clear h
  revert CC
  revert HBV
  generalize bkV (cutB p k s) = BV
  generalize cutS p k s = CS at *
  revert CR r1 r2 HQ hl q2 q3 q4 HT HT2 hls
  generalize lastB p.size s = L
  generalize room s = R
  intro hl CR r1 r2 HQ q2 q3 q4 HT HT2 hls HBV CC
  have q0 : ¬ max ((p.size : Int) - 1) 0 / (R : Int) < k := by rw [HQ.out]; omega
  go_enter Try.func8, Try.ntmps8
  go_wp2_with fail
  refine (C.out _).mono ?_
  rintro e w1 ⟨rfl, h1⟩
  subst h1
  go_wp2_with fail
  refine (CR.out _).mono ?_
  rintro e w1 ⟨rfl, h1⟩
  subst h1
  go_wp2_with fail
  refine (CR.out _).mono ?_
  rintro e w1 ⟨rfl, h1⟩
  subst h1
  go_wp2_with fail
  refine (CR.out _).mono ?_
  rintro e w1 ⟨rfl, h1⟩
  subst h1
  go_wp2_with fail
  rw [HT2.out]
  refine (CC.out _).mono ?_
  rintro e w1 ⟨rfl, hb1⟩
  have z1 : ∀ o, w1.cell? ⟨w.heap.size, o, none⟩ = (#[.int .i64 0, .bool false, .int .i64 0] : Array Value)[o]? := fun o => (hb1.cell (p := ⟨w.heap.size, o, none⟩) hsz).trans (z0 o)
  have f1 : ∀ o, w1.frozen? ⟨w.heap.size, o, none⟩ = false := fun o => Lib.frozen_of_heap ((hb1.block w.heap.size hsz).trans (Go.heap_alloc_new w _)) o
  have HB1 := hide (below_step HB.out hb1)
  clear hb1 z0 hsz
  rw [HQ.out]
  go_wp2
  exact bodyPost_ret (v := .tuple #[.string CS, BV, .int .i64 0]) (by simp [results, Try.results8, go_sem, HBV.out, World.cell?_setCell_same, z1]) rfl ⟨rfl, three_below HB1.out (Nat.le_refl _) _ _ _⟩

/-- Cut, whatever it is handed -/
theorem cut_any (p : ByteArray) (n s : Int) (w : World) : Calls Try.prog 8 #[.string p, .int .i64 n, .int .i64 s] w fun e w' => e = .returned (.tuple #[.string (cutAS p n s), bkV (cutAB p n s), .int .i64 (cutE p n s)]) ∧ Below w.heap.size w w' := by
  unfold cutAS cutAB
  by_cases h1 : 200 < p.size
  · have hE : cutE p n s = 2 := by unfold cutE; rw [if_pos h1]
    rw [hE]
    exact cut_many p n s w h1
  · by_cases h2 : szOk s = false ∨ n < 0
    · have hE : cutE p n s = 3 := by unfold cutE; rw [if_neg h1, if_pos h2]
      rw [hE]
      exact cut_range p n s w (by omega) h2
    · have hs : 0 ≤ s ∧ s ≤ 6 := szOk_iff.1 (by cases e : szOk s with | true => rfl | false => exact absurd (.inl e) h2)
      by_cases h3 : (lastB p.size s : Int) < n
      · have hE : cutE p n s = 5 := by unfold cutE; rw [if_neg h1, if_neg h2, if_pos h3]
        rw [hE]
        exact cut_none p n s w (by omega) hs.1 hs.2 (by omega) h3
      · have hE : cutE p n s = 0 := by unfold cutE; rw [if_neg h1, if_neg h2, if_neg h3]
        rw [hE, if_pos rfl, if_pos rfl]
        obtain ⟨k, rfl⟩ : ∃ k : Nat, n = k := ⟨n.toNat, by omega⟩
        exact cut_ok p k s w (by omega) hs.1 hs.2 (by omega)
end Go.Proofs.Ytcldjoklkbbbgad
