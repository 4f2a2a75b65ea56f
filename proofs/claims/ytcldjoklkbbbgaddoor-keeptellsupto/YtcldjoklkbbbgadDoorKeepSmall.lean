/-
  keep.checkOne, Check, checkAll, clone: what they answer.
-/
import Derived.Test.YtcldjoklkbbbgadDoorKeepMath
import Derived.Test.YtcldjoklkbbbgadDoorTopicMore
import Derived.Deep.RegionHeld3
import Derived.Laws.Cover1
namespace Go.Proofs.YtcldjoklkbbbgadDoor
open Go.RowKit Go.PlainAid

theorem kclone_any (s : ByteArray) (w : World) (h : s.size ≤ 281474976710656) :
    Calls Tryd.prog 38 #[.string s] w fun e w' => e = .returned (.string s) ∧ Below w.heap.size w w' := by
  go_enter Tryd.func38, Tryd.ntmps38
  go_wp2_with (go_at_call 43; refine (Tryd.stringslite_Clone _ _ h).mono ?_; rintro e w1 ⟨rfl, hb⟩)
  go_ret
  exact ⟨rfl, hb⟩

theorem kp_cells (w : World) (x y z : Value) : ∀ o, (w.alloc (.cells #[x, y, z] 27)).cell? ⟨w.heap.size, o, none⟩ = (#[x, y, z] : Array Value)[o]? := fun o => Lib.cell_of_heap (Go.heap_alloc_new w _) o

set_option maxHeartbeats 2000000 in
theorem checkOne_any (k : Kp) (w : World) (hm : Max w) : Calls Tryd.prog 34 #[kpV k] w fun e w' => e = .returned (.int .i64 (chkO k)) ∧ Below w.heap.size w w' := by
  obtain ⟨t, p, v⟩ := k
  simp only [kpV]
  generalize hE : chkO ⟨t, p, v⟩ = E
  unfold chkO at hE
  simp only at hE
  have HE := hide hE
  clear hE
  have C : Hid (∀ W, Below w.heap.size w W → Calls Tryd.prog 17 #[.string t] W fun e w' => e = .returned (.int .i64 (chk nameF t)) ∧ Below W.heap.size W w') := fun W h => name_max t W (hm.below h)
  have HB := hide ((Below.refl w.heap.size w).alloc (Nat.le_refl _) (.cells #[.string t, .string p, .int .i64 v] 27))
  have d0 := kp_cells w (.string t) (.string p) (.int .i64 v)
  have hz : w.heap.size < (w.alloc (.cells #[.string t, .string p, .int .i64 v] 27)).heap.size := by simp
  clear hm
  revert HE
  revert C
  generalize chk nameF t = N
  intro C HE
  go_enter Tryd.func34, Tryd.ntmps34
  go_wp2_with fail
  refine (C.out _ HB.out).mono ?_
  rintro e w1 ⟨rfl, hb1⟩
  have HB1 := hide (below_step HB.out hb1)
  have d1 : ∀ o, w1.cell? ⟨w.heap.size, o, none⟩ = (#[.string t, .string p, .int .i64 v] : Array Value)[o]? := fun o => (hb1.cell (p := ⟨w.heap.size, o, none⟩) hz).trans (d0 o)
  clear hb1 d0 hz HB C
  by_cases h1 : N = 0
  · have h1' : (N != 0) = false := by simp [h1]
    have HE1 : Hid (_ = E) := (if_neg (by simp [h1])).symm.trans HE.out
    clear HE h1
    by_cases h2 : p = ⟨#[]⟩
    · have HQ : Hid (E = 1) := by rw [← HE1.out, if_pos h2]; exact rfl
      subst h2
      clear HE1
      go_wp2
      go_ret
      exact ⟨by rw [HQ.out]; rfl, HB1.out⟩
    · have e2 := txt_no (l := []) h2
      have HE2 : Hid (_ = E) := (if_neg h2).symm.trans HE1.out
      clear HE1 h2
      by_cases h3 : (200 : Int) < p.size
      · have HQ : Hid (E = 2) := by rw [← HE2.out, if_pos (by omega)]; exact rfl
        clear HE2
        go_wp2
        go_ret
        exact ⟨by rw [HQ.out]; rfl, HB1.out⟩
      · have HE3 : Hid (_ = E) := (if_neg (show ¬ 200 < p.size by omega)).symm.trans HE2.out
        clear HE2
        by_cases h4 : v < 1
        · have HQ : Hid (E = 3) := by rw [← HE3.out, if_pos (.inl h4)]; exact rfl
          clear HE3
          go_wp2
          go_ret
          exact ⟨by rw [HQ.out]; rfl, HB1.out⟩
        · by_cases h5 : 16777215 < v
          · have HQ : Hid (E = 3) := by rw [← HE3.out, if_pos (.inr h5)]; exact rfl
            clear HE3
            go_wp2
            go_ret
            exact ⟨by rw [HQ.out]; rfl, HB1.out⟩
          · have HQ : Hid (E = 0) := by rw [← HE3.out, if_neg (by omega)]; exact rfl
            clear HE3
            go_wp2
            go_ret
            exact ⟨by rw [HQ.out]; rfl, HB1.out⟩
  · have h1' : (N != 0) = true := by simp [h1]
    have HQ : Hid (E = N) := by rw [← HE.out, if_pos h1]; exact rfl
    clear HE h1
    go_wp2
    go_ret
    exact ⟨by rw [HQ.out]; rfl, HB1.out⟩

theorem kps_here {w : World} {ao : Option Addr} {l : List Kp} {k : Nat} (h : KpsIn w ao l) (hlt : k < l.length) : ∃ b o, ao = some ⟨b, o, none⟩ ∧ b < w.heap.size ∧ ∀ i (h : i < l.length), w.cell? ⟨b, o + i * 3, none⟩ = some (.string l[i].topic) ∧ w.cell? ⟨b, o + i * 3 + 1, none⟩ = some (.string l[i].payload) ∧ w.cell? ⟨b, o + i * 3 + 2, none⟩ = some (.int .i64 l[i].ver) := by
  rcases h with rfl | h
  · simp at hlt
  · exact h

set_option maxHeartbeats 2000000 in
theorem kcheck_any (l : List Kp) (ao : Option Addr) (co : Nat) (w : World) (hl : KpsIn w ao l) (hm : Max w) :
    Calls Tryd.prog 14 #[.slice ao l.length co] w fun e w' => e = .returned (.int .i64 (chkK l)) ∧ Below w.heap.size w w' := by
  by_cases hn : 16 < l.length
  · have hE : chkK l = 2 := if_pos hn
    rw [hE]
    have hn' : (16 : Int) < l.length := by omega
    clear hl hm hE hn
    go_enter Tryd.func14, Tryd.ntmps14
    go_wp2
    go_ret
    exact ⟨rfl, Below.refl _ _⟩
  · have hE : chkK l = chkL ⟨#[]⟩ l := if_neg hn
    rw [hE]
    clear hE
    generalize hE : chkL ⟨#[]⟩ l = E
    have HE := hide hE
    have HL := hide hl
    have HM := hide hm
    clear hE hl hm
    go_enter Tryd.func14, Tryd.ntmps14
    go_wp2
    go_loopw [3, 12] (fun a i wr => ∃ k : Nat, k ≤ l.length ∧ i = .int .i64 k ∧ a = .string (lastT ⟨#[]⟩ (l.take k)) ∧ Hid (chkL (lastT ⟨#[]⟩ (l.take k)) (l.drop k) = E ∧ Below w.heap.size w wr)) (fun _ i _ => l.length - (intOf i).toNat)
    case atStart => exact ⟨0, by omega, rfl, rfl, HE.out, Below.refl _ _⟩
    case round =>
      obtain ⟨k, hk, rfl, rfl, HR⟩ := hrel
      have hsz := HR.out.2.size
      by_cases hlt : k < l.length
      · obtain ⟨b, o, rfl, hb, hcell⟩ := kps_here HL.out hlt
        have hk1 : wr.cell? ⟨b, o + k * 3, none⟩ = some (.string l[k].topic) := by rw [HR.out.2.cell (p := ⟨b, _, none⟩) hb]; exact (hcell k hlt).1
        have hk2 : wr.cell? ⟨b, o + k * 3 + 1, none⟩ = some (.string l[k].payload) := by rw [HR.out.2.cell (p := ⟨b, _, none⟩) hb]; exact (hcell k hlt).2.1
        have hk3 : wr.cell? ⟨b, o + k * 3 + 2, none⟩ = some (.int .i64 l[k].ver) := by rw [HR.out.2.cell (p := ⟨b, _, none⟩) hb]; exact (hcell k hlt).2.2
        have HS : Hid (_ = E) := (chkL_step ⟨#[]⟩ l k hlt).symm.trans HR.out.1
        have HLN := hide (lastT_snoc ⟨#[]⟩ l k hlt)
        have HB := hide (HR.out.2.alloc hsz (.cells #[.string l[k].topic, .string l[k].payload, .int .i64 l[k].ver] 27))
        have C := hide (fun W hW => checkOne_any l[k] W (HM.out.below hW))
        clear hcell HL HE HM
        generalize lastT ⟨#[]⟩ (l.take k) = a at *
        generalize hkk : l[k] = x at *
        clear hkk
        revert HS
        revert C
        generalize chkO x = O
        intro C HS
        obtain ⟨t, p, v⟩ := x
        simp only [kpV] at hk1 hk2 hk3 HS HLN HB C
        have HT := hide (leq_not t a)
        revert HT
        revert HS
        generalize tless a t = B
        intro HS HT
        have d0 := kp_cells wr (.string t) (.string p) (.int .i64 v)
        have hz : wr.heap.size < (wr.alloc (.cells #[.string t, .string p, .int .i64 v] 27)).heap.size := by simp
        go_wp2_with fail
        refine (C.out _ HB.out).mono ?_
        rintro e w1 ⟨rfl, hb1⟩
        have HB1 := hide (HB.out.trans (hb1.mono HB.out.size))
        have d1 : ∀ o, w1.cell? ⟨wr.heap.size, o, none⟩ = (#[.string t, .string p, .int .i64 v] : Array Value)[o]? := fun o => (hb1.cell (p := ⟨wr.heap.size, o, none⟩) hz).trans (d0 o)
        clear hb1 d0 hz HB C
        by_cases h1 : O = 0
        · have h1' : (O != 0) = false := by simp [h1]
          have HS1 : Hid (_ = E) := (if_neg (by simp [h1])).symm.trans HS.out
          clear HS h1
          cases B with
          | true =>
            have HQ : Hid (chkL (lastT ⟨#[]⟩ (l.take (k + 1))) (l.drop (k + 1)) = E) := by have := HS1.out; rwa [if_neg (by simp)] at this
            have ht : (Op.bytesLess t.toList a.toList || t.toList == a.toList) = false := HT.out
            go_wp2
            go_round
            case rel => exact ⟨k + 1, by omega, by go_num, by rw [HLN.out], HQ.out, HB1.out⟩
            case measure => simp [intOf]; omega
          | false =>
            have HQ : Hid (E = 4) := by rw [← HS1.out, if_pos rfl]; exact rfl
            have ht : (Op.bytesLess t.toList a.toList || t.toList == a.toList) = true := HT.out
            go_wp2
            go_ret
            exact ⟨by rw [HQ.out]; rfl, HB1.out⟩
        · have h1' : (O != 0) = true := by simp [h1]
          have HQ : Hid (E = O) := by rw [← HS.out, if_pos h1]; exact rfl
          clear HS h1
          go_wp2
          go_ret
          exact ⟨by rw [HQ.out]; rfl, HB1.out⟩
      · have hke : l.drop k = [] := List.drop_eq_nil_of_le (by omega)
        have HQ : Hid (E = 0) := by have := HR.out.1; rw [hke, chkL] at this; exact this.symm
        clear hke
        go_wp2
        go_ret
        exact ⟨by rw [HQ.out]; rfl, HR.out.2⟩

set_option maxHeartbeats 1000000 in
theorem checkAll_any (l : List Kp) (x : Int) (ao : Option Addr) (co : Nat) (w : World) (hl : KpsIn w ao l) (hm : Max w) :
    Calls Tryd.prog 16 #[.slice ao l.length co, .int .i64 x] w fun e w' => e = .returned (.int .i64 (allE l x)) ∧ Below w.heap.size w w' := by
  have C := hide (kcheck_any l ao co w hl hm)
  unfold allE
  clear hl hm
  generalize chkK l = N at *
  by_cases h : N = 0
  · have h' : (N != 0) = false := by simp [h]
    rw [if_neg (by simp [h])]
    clear h
    go_enter Tryd.func16, Tryd.ntmps16
    go_wp2_with fail
    refine C.out.mono ?_
    rintro e w1 ⟨rfl, hb1⟩
    have HB1 := hide hb1
    clear hb1
    go_wp2
    go_ret
    exact ⟨rfl, HB1.out⟩
  · have h' : (N != 0) = true := by simp [h]
    rw [if_pos h]
    clear h
    go_enter Tryd.func16, Tryd.ntmps16
    go_wp2_with fail
    refine C.out.mono ?_
    rintro e w1 ⟨rfl, hb1⟩
    have HB1 := hide hb1
    clear hb1
    go_wp2
    go_ret
    exact ⟨rfl, HB1.out⟩
end Go.Proofs.YtcldjoklkbbbgadDoor
