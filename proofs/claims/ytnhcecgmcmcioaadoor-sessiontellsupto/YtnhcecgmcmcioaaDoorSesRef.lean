/-
  dragomanref.IsClient, checkFlight, CheckSession: what they answer.
-/
import Derived.Test.YtnhcecgmcmcioaaDoorSesChecked
import Derived.Test.YtnhcecgmcmcioaaDoorWireGets
import Derived.Test.YtnhcecgmcmcioaaDoorTopicLevelsOf
import Derived.Deep.QuietTactic
import Derived.BigQuiet
namespace Go.Proofs.YtnhcecgmcmcioaaDoor
open Go.RowKit Go.PlainAid

theorem rngv (s : ByteArray) (k : Nat) : rngTo s k = visTo s k := by
  induction k with
  | zero => rfl
  | succ k ih => rw [rngTo, visTo, ih, Bool.and_assoc]
set_option maxHeartbeats 1000000 in
theorem isClB_any (s : ByteArray) (w : World) (hs : s.size ≤ maxLen) : Calls Tryd.prog 30 #[.string s] w fun e w' => e = .returned (.bool (clB s)) ∧ w' = w := by
  have CP := hide (refPlain_any s w hs)
  rw [rngv] at CP
  have hN : clB s = (decide (s.size ≤ 20) && (visTo s s.size && decide (0 < s.size))) := rfl
  rw [hN]
  generalize visTo s s.size = V at *
  clear hs hN
  by_cases h0 : 0 < s.size ∧ s.size ≤ 20
  · go_enter Tryd.func30, Tryd.ntmps30
    go_wp2_with fail
    refine (between_yes _ _ _ _ (by omega)).mono ?_
    rintro e w1 ⟨rfl, rfl⟩
    go_wp2_with fail
    refine CP.out.mono ?_
    rintro e w1 ⟨rfl, rfl⟩
    go_wp2
    go_ret
    exact ⟨by simp [h0.1, h0.2], rfl⟩
  · have hB : (decide (s.size ≤ 20) && (V && decide (0 < s.size))) = false := by
      by_cases h1 : s.size ≤ 20
      · have : ¬ 0 < s.size := fun h => h0 ⟨h, h1⟩
        simp [this]
      · simp [h1]
    rw [hB]
    clear hB
    go_enter Tryd.func30, Tryd.ntmps30
    go_wp2_with fail
    refine (between_no _ _ _ _ (by omega)).mono ?_
    rintro e w1 ⟨rfl, rfl⟩
    go_wp2
    go_ret
    exact ⟨rfl, rfl⟩

set_option maxHeartbeats 1000000 in
theorem refFlight_any (f : Fl) (w : World) (hn : f.topic.size ≤ 1048576) : Calls Tryd.prog 31 #[flV f] w fun e w' => e = .returned (.int .i64 (toldE f.topic f.load)) ∧ Below w.heap.size w w' := by
  obtain ⟨n, t, p⟩ := f
  simp only at hn
  have HB0 := hide ((Below.refl w.heap.size w).alloc (Nat.le_refl _) (.cells #[.int .i64 n, .string t, .string p] 46))
  have C : Hid (∀ V, Calls Tryd.prog 10 #[.string t, .bool false] V fun e w' => e = .returned (.int .i64 (chk nameF t)) ∧ Below V.heap.size V w') := fun V => checkTopic_any t false V hn
  have d0 := fl_cells w (.int .i64 n) (.string t) (.string p)
  have hz : w.heap.size < (w.alloc (.cells #[.int .i64 n, .string t, .string p] 46)).heap.size := by simp
  simp only [flV, toldE]
  generalize chk nameF t = E at *
  clear hn
  by_cases h : E = 0
  · subst h
    rw [if_neg (by decide)]
    by_cases h2 : 200 < p.size
    · rw [if_pos h2]
      have h3 : (200 : Int) < p.size := by omega
      clear h2
      go_enter Tryd.func31, Tryd.ntmps31
      go_wp2_with fail
      refine (C.out _).mono ?_
      rintro e w1 ⟨rfl, hb⟩
      have d1 : ∀ o, w1.cell? ⟨w.heap.size, o, none⟩ = (#[.int .i64 n, .string t, .string p] : Array Value)[o]? := fun o => (hb.cell (p := ⟨w.heap.size, o, none⟩) hz).trans (d0 o)
      have HB := hide (below_step HB0.out hb)
      clear hb d0 C
      go_wp2
      go_ret
      exact ⟨rfl, HB.out⟩
    · rw [if_neg h2]
      have h3 : ¬ (200 : Int) < p.size := by omega
      clear h2
      go_enter Tryd.func31, Tryd.ntmps31
      go_wp2_with fail
      refine (C.out _).mono ?_
      rintro e w1 ⟨rfl, hb⟩
      have d1 : ∀ o, w1.cell? ⟨w.heap.size, o, none⟩ = (#[.int .i64 n, .string t, .string p] : Array Value)[o]? := fun o => (hb.cell (p := ⟨w.heap.size, o, none⟩) hz).trans (d0 o)
      have HB := hide (below_step HB0.out hb)
      clear hb d0 C
      go_wp2
      go_ret
      exact ⟨rfl, HB.out⟩
  · rw [if_pos h]
    have h1 : (E == 0) = false := by simp [h]
    clear h
    go_enter Tryd.func31, Tryd.ntmps31
    go_wp2_with fail
    refine (C.out _).mono ?_
    rintro e w1 ⟨rfl, hb⟩
    have HB := hide (below_step HB0.out hb)
    clear hb d0 C
    go_wp2
    go_ret
    exact ⟨rfl, HB.out⟩

theorem any_hit_f {l : List Fl} {j k : Nat} {id : Int} (h : j < l.length) (hk : j < k) (hj : isI id l[j] = true) : (l.take k).any (isI id) = true := by
  refine List.any_eq_true.2 ⟨l[j], ?_, hj⟩
  rw [List.mem_take_iff_getElem]
  exact ⟨j, by omega, rfl⟩
theorem any_more_f {l : List Fl} {j : Nat} {id : Int} (h : j < l.length) (ha : (l.take j).any (isI id) = false) (hj : isI id l[j] = false) : (l.take (j + 1)).any (isI id) = false := by
  rw [List.take_succ_eq_append_getElem h, List.any_append, ha]
  simp [hj]
end Go.Proofs.YtnhcecgmcmcioaaDoor
