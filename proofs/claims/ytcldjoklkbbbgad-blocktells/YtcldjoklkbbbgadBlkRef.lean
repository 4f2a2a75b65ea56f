/-
  dragomanlaw.limited, dragomanref.CutOf: what they answer.
-/
import Derived.Test.YtcldjoklkbbbgadBlkBegun
import Derived.Test.YtcldjoklkbbbgadBetween
namespace Go.Proofs.Ytcldjoklkbbbgad
open Go.RowKit Go.PlainAid

def limN (n : Int) : Int := if 1000 < n then 1000 else n
theorem limited_any (n : Int) (w : World) : Calls Try.prog 11 #[.int .i64 n] w fun e w' => e = .returned (.int .i64 (limN n)) ∧ w' = w := by
  unfold limN
  by_cases h : 1000 < n
  · rw [if_pos h]
    go_enter Try.func11, Try.ntmps11
    go_wp2
    go_ret
    exact ⟨rfl, rfl⟩
  · rw [if_neg h]
    go_enter Try.func11, Try.ntmps11
    go_wp2
    go_ret
    exact ⟨rfl, rfl⟩
/-- a number that is too great is as good as another one -/
theorem cutE_lim (p : ByteArray) (n s : Int) : cutE p (limN n) s = cutE p n s := by
  unfold limN
  split
  · rename_i h
    unfold cutE
    split
    · rfl
    · rename_i hp
      have := lastB_le p.size s (by omega)
      by_cases hs : szOk s = false
      · rw [if_pos (.inl hs), if_pos (.inl hs)]
      · rw [if_neg (show ¬ (szOk s = false ∨ (1000 : Int) < 0) from fun h => h.elim hs (by omega)), if_neg (show ¬ (szOk s = false ∨ n < 0) from fun h => h.elim hs (by omega)), if_pos (show (lastB p.size s : Int) < 1000 by omega), if_pos (show (lastB p.size s : Int) < n by omega)]
  · rfl
theorem cut_lim (p : ByteArray) (n s : Int) : cutAS p (limN n) s = cutAS p n s ∧ cutAB p (limN n) s = cutAB p n s := by
  unfold cutAS cutAB
  rw [cutE_lim]
  by_cases h : cutE p n s = 0
  · rw [if_pos h, if_pos h, if_pos h, if_pos h]
    obtain ⟨h1, _, h3, h4⟩ := cutE_ok h
    have := lastB_le p.size s h1
    have : limN n = n := by unfold limN; rw [if_neg (by omega)]
    rw [this]
    exact ⟨rfl, rfl⟩
  · rw [if_neg h, if_neg h, if_neg h, if_neg h]
    exact ⟨rfl, rfl⟩

theorem between6 (s : Int) (w : World) : Calls Try.prog 21 #[.int .i64 s, .int .i64 0, .int .i64 6] w fun e w' => e = .returned (.bool (szOk s)) ∧ w' = w := between_any s 0 6 w

set_option maxHeartbeats 1000000 in
theorem cutOf_many (p : ByteArray) (n s : Int) (w : World) (h : 200 < p.size) :
    Calls Try.prog 10 #[.string p, .int .i64 n, .int .i64 s] w fun e w' => e = .returned (.tuple #[.string ⟨#[]⟩, bkV bkZ, .int .i64 2]) ∧ Below w.heap.size w w' := by
  have h' : (200 : Int) < p.size := by omega
  have z0 := three_cells w (.int .i64 0) (.bool false) (.int .i64 0)
  have HB := hide ((Below.refl w.heap.size w).alloc (Nat.le_refl _) (.cells #[.int .i64 0, .bool false, .int .i64 0] 25))
  clear h
  go_enter Try.func10, Try.ntmps10
  go_wp2
  exact bodyPost_ret (v := .tuple #[.string ⟨#[]⟩, bkV bkZ, .int .i64 2]) (by simp [results, Try.results10, go_sem, bkV, bkZ, z0]) rfl ⟨rfl, HB.out⟩

set_option maxHeartbeats 1000000 in
theorem cutOf_range (p : ByteArray) (n s : Int) (w : World) (h : p.size ≤ 200) (h2 : szOk s = false ∨ n < 0) :
    Calls Try.prog 10 #[.string p, .int .i64 n, .int .i64 s] w fun e w' => e = .returned (.tuple #[.string ⟨#[]⟩, bkV bkZ, .int .i64 3]) ∧ Below w.heap.size w w' := by
  have h' : (p.size : Int) ≤ 200 := by omega
  have z0 := three_cells w (.int .i64 0) (.bool false) (.int .i64 0)
  have HB := hide ((Below.refl w.heap.size w).alloc (Nat.le_refl _) (.cells #[.int .i64 0, .bool false, .int .i64 0] 25))
  have C := hide (fun W => between6 s W)
  clear h
  revert C h2
  generalize szOk s = B
  intro h2 C
  cases B with
  | false =>
    clear h2
    go_enter Try.func10, Try.ntmps10
    go_wp2_with fail
    refine (C.out _).mono ?_
    rintro e w1 ⟨rfl, h1⟩
    subst h1
    go_wp2
    exact bodyPost_ret (v := .tuple #[.string ⟨#[]⟩, bkV bkZ, .int .i64 3]) (by simp [results, Try.results10, go_sem, bkV, bkZ, z0]) rfl ⟨rfl, HB.out⟩
  | true =>
    have h3 : n < 0 := by simpa using h2
    clear h2
    go_enter Try.func10, Try.ntmps10
    go_wp2_with fail
    refine (C.out _).mono ?_
    rintro e w1 ⟨rfl, h1⟩
    subst h1
    go_wp2
    exact bodyPost_ret (v := .tuple #[.string ⟨#[]⟩, bkV bkZ, .int .i64 3]) (by simp [results, Try.results10, go_sem, bkV, bkZ, z0]) rfl ⟨rfl, HB.out⟩

/-- what is left behind so many blocks -/
def leftB (p : ByteArray) (k : Nat) (s : Int) : ByteArray := p.extract (k * room s) p.size
theorem left_zero (p : ByteArray) (s : Int) : leftB p 0 s = p := by
  apply ByteArray.ext; apply Array.toList_inj.1; simp [leftB]
theorem left_size (p : ByteArray) (k : Nat) (s : Int) : (leftB p k s).size = p.size - k * room s := by simp [leftB]
theorem left_next (p : ByteArray) (k : Nat) (s : Int) : (leftB p k s).extract (room s) (leftB p k s).size = leftB p (k + 1) s := by
  rw [left_size]
  unfold leftB
  rw [ByteArray.extract_extract, Nat.add_mul, Nat.one_mul]
  congr 1
  omega
theorem left_few {p : ByteArray} {k : Nat} {s : Int} (h : k = lastB p.size s) : (leftB p k s).size ≤ room s := by
  have := lastB_lt p.size s
  rw [left_size, h]
  rw [Nat.add_mul, Nat.one_mul] at this
  omega
theorem left_many {p : ByteArray} {k : Nat} {s : Int} (h : k < lastB p.size s) : room s < (leftB p k s).size := by
  have := cut_full h
  have := room_pos s
  rw [left_size]
  omega
theorem left_cut_few {p : ByteArray} {k : Nat} {s : Int} (h : k = lastB p.size s) : leftB p k s = cutS p k s := by
  have h2 := left_few h
  rw [left_size] at h2
  have h3 := cut_from (n := p.size) (s := s) (k := k) (by omega)
  unfold leftB cutS
  rw [Int.toNat_natCast]
  congr 1
  omega
theorem left_cut_many {p : ByteArray} {k : Nat} {s : Int} (h : k < lastB p.size s) : (leftB p k s).extract 0 (room s) = cutS p k s := by
  have h1 := cut_full h
  unfold leftB cutS
  rw [ByteArray.extract_extract, Int.toNat_natCast]
  congr 1
  all_goals omega

set_option maxHeartbeats 2000000 in
set_option maxRecDepth 100000 in
theorem cutOf_rest (p : ByteArray) (n : Nat) (s : Int) (w : World) (h : p.size ≤ 200) (h0 : 0 ≤ s) (h6 : s ≤ 6) (hn : n ≤ 1000) :
    Calls Try.prog 10 #[.string p, .int .i64 n, .int .i64 s] w fun e w' => e = .returned (.tuple #[.string (cutAS p n s), bkV (cutAB p n s), .int .i64 (cutE p n s)]) ∧ Below w.heap.size w w' := by
  have h' : (p.size : Int) ≤ 200 := by omega
  have C : Hid (∀ W, Calls Try.prog 21 #[.int .i64 s, .int .i64 0, .int .i64 6] W fun e w' => e = .returned (.bool true) ∧ w' = W) := fun W => by
    have := between6 s W
    rwa [szOk_iff.2 ⟨h0, h6⟩] at this
  have CL := hide (fun W => longBlock_any s W h0 h6)
  have r1 : (16 : Int) ≤ room s := by have := room_ge s; omega
  have r2 : (room s : Int) ≤ 1024 := by have := room_le h6; omega
  have l12 := lastB_le p.size s h
  have HE5 : Hid (lastB p.size s < n → cutE p n s = 5 ∧ cutAS p n s = ⟨#[]⟩ ∧ cutAB p n s = bkZ) := fun hl => by
    have hE : cutE p n s = 5 := by
      unfold cutE
      rw [if_neg (by omega), if_neg (by rw [szOk_iff.2 ⟨h0, h6⟩]; simp), if_pos (by omega)]
    exact ⟨hE, by unfold cutAS; rw [hE]; rfl, by unfold cutAB; rw [hE]; rfl⟩
  have HE0 : Hid (n ≤ lastB p.size s → cutE p n s = 0 ∧ cutAS p n s = cutS p n s ∧ cutAB p n s = ⟨n, decide ((n : Int) < lastB p.size s), s⟩) := fun hl => by
    have hE : cutE p n s = 0 := by
      unfold cutE
      rw [if_neg (by omega), if_neg (by rw [szOk_iff.2 ⟨h0, h6⟩]; simp), if_neg (by omega)]
    exact ⟨hE, by unfold cutAS; rw [hE]; rfl, by unfold cutAB; rw [hE]; rfl⟩
  revert HE5 HE0
  generalize cutE p n s = CE
  generalize cutAS p n s = CS
  generalize cutAB p n s = CB
  intro HE5 HE0
  have HB := hide ((Below.refl w.heap.size w).alloc (Nat.le_refl _) (.cells #[.int .i64 0, .bool false, .int .i64 0] 25))
  have z0 := three_cells w (.int .i64 0) (.bool false) (.int .i64 0)
  have hws : w.heap.size < (w.alloc (.cells #[.int .i64 0, .bool false, .int .i64 0] 25)).heap.size := by simp
  have hfz : ∀ o, (w.alloc (.cells #[.int .i64 0, .bool false, .int .i64 0] 25)).frozen? ⟨w.heap.size, o, none⟩ = false := fun o => Lib.frozen_of_heap (Go.heap_alloc_new w _) o
  go_enter Try.func10, Try.ntmps10
  go_wp2_with fail
  refine (C.out _).mono ?_
  rintro e w1 ⟨rfl, h1⟩
  subst h1
  go_wp2_with fail
  refine (CL.out _).mono ?_
  rintro e w1 ⟨rfl, h1⟩
  subst h1
  go_wp2_with fail
  go_loop [0, 10] (fun a i => ∃ k : Nat, k ≤ n ∧ k ≤ lastB p.size s ∧ i = .int .i64 k ∧ a = .string (leftB p k s)) (fun _ i => n - (intOf i).toNat)
  case atStart => exact ⟨0, by omega, by omega, rfl, by rw [left_zero]⟩
  case round =>
    obtain ⟨k, hk, hkl, rfl, rfl⟩ := hrel
    have hls : (leftB p k s).size ≤ 200 := by rw [left_size]; omega
    by_cases hlt : k < n
    · by_cases hq : k < lastB p.size s
      · have e1 := left_many hq
        have HN := hide (left_next p k s)
        have e1' : ¬ ((leftB p k s).size : Int) ≤ (room s : Int) := by omega
        revert HN
        generalize leftB p k s = Y at *
        generalize room s = R at *
        intro HN
        go_wp2_with fail
        go_round
        case rel => exact ⟨k + 1, by omega, by omega, by go_num, by first | rw [← HN.out] | (simp [HN.out])⟩
        case measure => simp [intOf]; omega
      · have e1 := left_few (p := p) (s := s) (k := k) (by omega)
        have e1' : ((leftB p k s).size : Int) ≤ (room s : Int) := by omega
        obtain ⟨x1, x2, x3⟩ := HE5.out (by omega)
        subst x1 x2 x3
        go_wp2
        exact bodyPost_ret (v := .tuple #[.string ⟨#[]⟩, bkV bkZ, .int .i64 5]) (by simp [results, Try.results10, go_sem, bkV, bkZ, z0]) rfl ⟨rfl, HB.out⟩
    · obtain rfl : k = n := by omega
      obtain ⟨x1, x2, x3⟩ := HE0.out hkl
      by_cases hq : k < lastB p.size s
      · have e1 := left_many hq
        have e1' : (room s : Int) < ((leftB p k s).size : Int) := by omega
        rw [← left_cut_many hq] at x2
        rw [decide_eq_true (show (k : Int) < lastB p.size s by omega)] at x3
        subst x1 x2 x3
        have y1 : ∀ o, ((w.alloc (.cells #[.int .i64 k, .bool true, .int .i64 s] 25)).alloc (.cells #[.int .i64 k, .bool true, .int .i64 s] 25)).cell? ⟨w.heap.size, o, none⟩ = (#[.int .i64 k, .bool true, .int .i64 s] : Array Value)[o]? := fun o => (World.cell?_alloc_old _ _ _ (by simp)).trans (three_cells w _ _ _ o)
        have HY := hide (((((Below.refl w.heap.size w).alloc (Nat.le_refl _) (.cells #[.int .i64 k, .bool true, .int .i64 s] 25)).alloc (by simp) (.cells #[.int .i64 k, .bool true, .int .i64 s] 25))).drew)
        go_wp2_with fail
        go_region
        all_goals
          go_wp2
          exact bodyPost_ret (v := .tuple #[.string ((leftB p k s).extract 0 (room s)), bkV ⟨k, true, s⟩, .int .i64 0]) (by simp [results, Try.results10, go_sem, bkV, y1]) rfl ⟨rfl, HY.out⟩
      · have e1 := left_few (p := p) (s := s) (k := k) (by omega)
        have e1' : ¬ (room s : Int) < ((leftB p k s).size : Int) := by omega
        rw [← left_cut_few (p := p) (s := s) (k := k) (by omega)] at x2
        rw [decide_eq_false (show ¬ (k : Int) < lastB p.size s by omega)] at x3
        subst x1 x2 x3
        have y1 : ∀ o, ((w.alloc (.cells #[.int .i64 k, .bool false, .int .i64 s] 25)).alloc (.cells #[.int .i64 k, .bool false, .int .i64 s] 25)).cell? ⟨w.heap.size, o, none⟩ = (#[.int .i64 k, .bool false, .int .i64 s] : Array Value)[o]? := fun o => (World.cell?_alloc_old _ _ _ (by simp)).trans (three_cells w _ _ _ o)
        have HY := hide (((((Below.refl w.heap.size w).alloc (Nat.le_refl _) (.cells #[.int .i64 k, .bool false, .int .i64 s] 25)).alloc (by simp) (.cells #[.int .i64 k, .bool false, .int .i64 s] 25))).drew)
        go_wp2_with fail
        go_region
        all_goals
          go_wp2
          exact bodyPost_ret (v := .tuple #[.string (leftB p k s), bkV ⟨k, false, s⟩, .int .i64 0]) (by simp [results, Try.results10, go_sem, bkV, y1]) rfl ⟨rfl, HY.out⟩

theorem cutOf_any (p : ByteArray) (n s : Int) (w : World) (hn : n ≤ 1000) : Calls Try.prog 10 #[.string p, .int .i64 n, .int .i64 s] w fun e w' => e = .returned (.tuple #[.string (cutAS p n s), bkV (cutAB p n s), .int .i64 (cutE p n s)]) ∧ Below w.heap.size w w' := by
  by_cases h1 : 200 < p.size
  · have hE : cutE p n s = 2 := by unfold cutE; rw [if_pos h1]
    rw [cutAS, cutAB, hE]
    exact cutOf_many p n s w h1
  · by_cases h2 : szOk s = false ∨ n < 0
    · have hE : cutE p n s = 3 := by unfold cutE; rw [if_neg h1, if_pos h2]
      rw [cutAS, cutAB, hE]
      exact cutOf_range p n s w (by omega) h2
    · have hs : 0 ≤ s ∧ s ≤ 6 := szOk_iff.1 (by cases e : szOk s with | true => rfl | false => exact absurd (.inl e) h2)
      obtain ⟨k, rfl⟩ : ∃ k : Nat, n = k := ⟨n.toNat, by omega⟩
      exact cutOf_rest p k s w (by omega) hs.1 hs.2 (by omega)
end Go.Proofs.Ytcldjoklkbbbgad
