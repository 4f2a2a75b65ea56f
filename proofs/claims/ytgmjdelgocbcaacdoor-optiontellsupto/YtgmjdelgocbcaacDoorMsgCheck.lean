/-
  message.isBare, checkOptions, Check: what they answer.
-/
import Derived.Test.YtgmjdelgocbcaacDoorMsgMath
import Derived.Test.YtgmjdelgocbcaacDoorTopicMath
import Derived.Test.YtgmjdelgocbcaacDoorRows
import Derived.WalkKit
import Derived.ProofKit
import Derived.WalkSpells
import Derived.WalkLawsBesides
namespace Go.Proofs.YtgmjdelgocbcaacDoor
open Go.RowKit Go.PlainAid

set_option maxHeartbeats 2000000 in
theorem misBare_any (m : Mg) (ao : Option Addr) (co : Nat) (w : World) :
    Calls Tryd.prog 41 #[mgV m ao co] w fun e w' => e = .returned (.bool (bareM m)) ∧ Below w.heap.size w w' := by
  obtain ⟨k, c, i, t, l, p⟩ := m
  simp only [mgV, bareM]
  generalize l.length = n
  by_cases h1 : t = ⟨#[]⟩
  · subst h1
    by_cases h2 : n = 0
    · subst h2
      by_cases h3 : p = ⟨#[]⟩
      · subst h3
        go_enter Tryd.func41, Tryd.ntmps41
        go_wp2
        go_ret
        exact ⟨by simp, (Below.refl _ _).alloc (Nat.le_refl _) _⟩
      · have e3 := txt_no (l := []) h3
        have H3 := hide h3
        clear h3
        go_enter Tryd.func41, Tryd.ntmps41
        go_wp2
        go_ret
        exact ⟨by simp [H3.out], (Below.refl _ _).alloc (Nat.le_refl _) _⟩
    · have e2 : ((n : Int) == 0) = false := by simp; omega
      have H2 := hide h2
      clear h2
      go_enter Tryd.func41, Tryd.ntmps41
      go_wp2
      go_ret
      exact ⟨by simp [H2.out], (Below.refl _ _).alloc (Nat.le_refl _) _⟩
  · have e1 := txt_no (l := []) h1
    have H1 := hide h1
    clear h1
    go_enter Tryd.func41, Tryd.ntmps41
    go_wp2
    go_ret
    exact ⟨by simp [H1.out], (Below.refl _ _).alloc (Nat.le_refl _) _⟩

theorem optsE_step (l : List (Int × ByteArray)) (k : Nat) (h : k < l.length) : optsE (lastN 0 (l.take k)) (l.drop k) = if l[k].1 < 0 ∨ 65535 < l[k].1 then 3 else if l[k].1 < lastN 0 (l.take k) then 4 else if 60 < l[k].2.size then 2 else optsE (lastN 0 (l.take (k + 1))) (l.drop (k + 1)) := by
  rw [List.drop_eq_getElem_cons h, optsE, lastN_snoc 0 l k h]

set_option maxHeartbeats 2000000 in
theorem checkOptions_any (l : List (Int × ByteArray)) (ao : Option Addr) (co : Nat) (w : World) (hl : OptsIn w ao l) (hn : l.length ≤ 12) :
    Calls Tryd.prog 40 #[.slice ao l.length co] w fun e w' => e = .returned (.int .i64 (optsE 0 l)) ∧ Below w.heap.size w w' := by
  generalize hE : optsE 0 l = E
  have HE := hide hE
  have HL := hide hl
  clear hE hl
  go_enter Tryd.func40, Tryd.ntmps40
  go_wp2
  go_loopw [3, 8] (fun a i wr => ∃ k : Nat, k ≤ l.length ∧ i = .int .i64 k ∧ a = .int .i64 (lastN 0 (l.take k)) ∧ Hid (optsE (lastN 0 (l.take k)) (l.drop k) = E ∧ Below w.heap.size w wr)) (fun _ i _ => l.length - (intOf i).toNat)
  case atStart => exact ⟨0, by omega, rfl, rfl, HE.out, Below.refl _ _⟩
  case round =>
    obtain ⟨k, hk, rfl, rfl, HR⟩ := hrel
    have hsz := HR.out.2.size
    by_cases hlt : k < l.length
    · obtain ⟨b, o, rfl, hb, hcell⟩ : ∃ b o, ao = some ⟨b, o, none⟩ ∧ b < w.heap.size ∧ ∀ i (h : i < l.length), w.cell? ⟨b, o + i * 2, none⟩ = some (.int .i64 l[i].1) ∧ w.cell? ⟨b, o + i * 2 + 1, none⟩ = some (.string l[i].2) := by
        rcases HL.out with rfl | h
        · simp at hlt
        · exact h
      have hk1 : wr.cell? ⟨b, o + k * 2, none⟩ = some (.int .i64 l[k].1) := by rw [HR.out.2.cell (p := ⟨b, _, none⟩) hb]; exact (hcell k hlt).1
      have hk2 : wr.cell? ⟨b, o + k * 2 + 1, none⟩ = some (.string l[k].2) := by rw [HR.out.2.cell (p := ⟨b, _, none⟩) hb]; exact (hcell k hlt).2
      have HS : Hid (_ = E) := (optsE_step l k hlt).symm.trans HR.out.1
      have HLN := hide (lastN_snoc 0 l k hlt)
      have HB := hide (HR.out.2.alloc hsz (.cells #[.int .i64 l[k].1, .string l[k].2] 31))
      clear hcell HL HE
      generalize lastN 0 (l.take k) = a at *
      generalize l[k] = x at *
      obtain ⟨n, v⟩ := x
      simp only at hk1 hk2 HS HLN
      by_cases h1 : n < 0
      · have HQ : Hid (E = 3) := by rw [← HS.out, if_pos (.inl h1)]; exact rfl
        go_wp2
        go_ret
        exact ⟨by rw [HQ.out]; rfl, HB.out⟩
      · have h1' : decide (n < 0) = false := by simp; omega
        by_cases h2 : 65535 < n
        · have HQ : Hid (E = 3) := by rw [← HS.out, if_pos (.inr h2)]; exact rfl
          have h2' : decide (65535 < n) = true := by simp; omega
          clear h1 h2
          go_wp2
          go_ret
          exact ⟨by rw [HQ.out]; rfl, HB.out⟩
        · have h2' : decide (65535 < n) = false := by simp; omega
          by_cases h3 : n < a
          · have HQ : Hid (E = 4) := by rw [← HS.out, if_neg (by omega), if_pos h3]; exact rfl
            clear h1 h2
            go_wp2
            go_ret
            exact ⟨by rw [HQ.out]; rfl, HB.out⟩
          · by_cases h4 : 60 < v.size
            · have HQ : Hid (E = 2) := by rw [← HS.out, if_neg (by omega), if_neg h3, if_pos h4]; exact rfl
              have h4' : (60 : Int) < v.size := by omega
              clear h1 h2
              go_wp2
              go_ret
              exact ⟨by rw [HQ.out]; rfl, HB.out⟩
            · have HQ : Hid (optsE (lastN 0 (l.take (k + 1))) (l.drop (k + 1)) = E) := by rw [← HS.out, if_neg (by omega), if_neg h3, if_neg h4]; exact rfl
              have h4' : ¬ (60 : Int) < v.size := by omega
              clear h1 h2
              go_wp2
              go_round
              case rel => exact ⟨k + 1, by omega, by go_num, by rw [HLN.out], HQ.out, HB.out⟩
              case measure => simp [intOf]; omega
    · have hke : l.drop k = [] := List.drop_eq_nil_of_le (by omega)
      have HQ : Hid (E = 0) := by have := HR.out.1; rw [hke, optsE] at this; exact this.symm
      clear hke
      go_wp2
      go_ret
      exact ⟨by rw [HQ.out]; rfl, HR.out.2⟩

set_option maxHeartbeats 4000000 in
theorem mcheck_any (m : Mg) (ao : Option Addr) (co : Nat) (w : World) (hl : OptsIn w ao m.opts) :
    Calls Tryd.prog 27 #[mgV m ao co] w fun e w' => e = .returned (.int .i64 (chkM m)) ∧ Below w.heap.size w w' := by
  generalize hE : chkM m = E
  have CB := hide (fun W => misBare_any m ao co W)
  have CO : Hid (m.opts.length ≤ 12 → ∀ W, Below w.heap.size w W → Calls Tryd.prog 40 #[.slice ao m.opts.length co] W fun e w' => e = .returned (.int .i64 (optsE 0 m.opts)) ∧ Below W.heap.size W w') := fun hn W h => checkOptions_any m.opts ao co W (hl.below h) hn
  clear hl
  unfold chkM at hE
  obtain ⟨k, c, i, t, l, p⟩ := m
  simp only [mgV] at hE CB CO ⊢
  have HE := hide hE
  clear hE
  revert HE CB CO
  generalize optsE 0 l = O
  generalize bareM ⟨k, c, i, t, l, p⟩ = B
  generalize l.length = n
  intro CB CO HE
  have HB := hide ((Below.refl w.heap.size w).alloc (Nat.le_refl _) (.cells #[.int .i64 k, .int .i64 c, .int .i64 i, .string t, .slice ao n co, .string p] 24))
  by_cases h1 : k < 0 ∨ 3 < k
  · have HQ : Hid (E = 7) := by rw [← HE.out, if_pos h1]; exact rfl
    clear HE CB CO
    by_cases h0 : k < 0
    · clear h1
      go_enter Tryd.func27, Tryd.ntmps27
      go_wp2
      go_ret
      exact ⟨by rw [HQ.out]; rfl, HB.out⟩
    · have h0' : decide (k < 0) = false := by simp; omega
      have h1' : decide (3 < k) = true := by simp; omega
      clear h1 h0
      go_enter Tryd.func27, Tryd.ntmps27
      go_wp2
      go_ret
      exact ⟨by rw [HQ.out]; rfl, HB.out⟩
  · have a1 : decide (k < 0) = false := by simp; omega
    have a2 : decide (3 < k) = false := by simp; omega
    have HE1 : Hid (_ = E) := (if_neg h1).symm.trans HE.out
    clear HE h1
    by_cases h2 : c < 0 ∨ 255 < c ∨ i < 0 ∨ 65535 < i
    · have HQ : Hid (E = 3) := by rw [← HE1.out, if_pos h2]; exact rfl
      clear HE1 CB CO
      by_cases b1 : c < 0
      · clear h2
        go_enter Tryd.func27, Tryd.ntmps27
        go_wp2
        go_ret
        exact ⟨by rw [HQ.out]; rfl, HB.out⟩
      · have b1' : decide (c < 0) = false := by simp; omega
        by_cases b2 : 255 < c
        · have b2' : decide (255 < c) = true := by simp; omega
          clear h2 b1 b2
          go_enter Tryd.func27, Tryd.ntmps27
          go_wp2
          go_ret
          exact ⟨by rw [HQ.out]; rfl, HB.out⟩
        · have b2' : decide (255 < c) = false := by simp; omega
          by_cases b3 : i < 0
          · have b3' : decide (i < 0) = true := by simp; omega
            clear h2 b1 b2 b3
            go_enter Tryd.func27, Tryd.ntmps27
            go_wp2
            go_ret
            exact ⟨by rw [HQ.out]; rfl, HB.out⟩
          · have b3' : decide (i < 0) = false := by simp; omega
            have b4' : decide (65535 < i) = true := by simp; omega
            clear h2 b1 b2 b3
            go_enter Tryd.func27, Tryd.ntmps27
            go_wp2
            go_ret
            exact ⟨by rw [HQ.out]; rfl, HB.out⟩
    · have b1 : decide (c < 0) = false := by simp; omega
      have b2 : decide (255 < c) = false := by simp; omega
      have b3 : decide (i < 0) = false := by simp; omega
      have b4 : decide (65535 < i) = false := by simp; omega
      have HE2 : Hid (_ = E) := (if_neg h2).symm.trans HE1.out
      clear HE1 h2
      by_cases h3 : 8 < t.size ∨ 12 < n ∨ 200 < p.size
      · have HQ : Hid (E = 2) := by rw [← HE2.out, if_pos h3]; exact rfl
        clear HE2 CB CO
        by_cases c1 : 8 < t.size
        · have c1' : decide ((8 : Int) < t.size) = true := by simp; omega
          clear h3 c1
          go_enter Tryd.func27, Tryd.ntmps27
          go_wp2
          go_ret
          exact ⟨by rw [HQ.out]; rfl, HB.out⟩
        · have c1' : decide ((8 : Int) < t.size) = false := by simp; omega
          by_cases c2 : 12 < n
          · have c2' : decide ((12 : Int) < n) = true := by simp; omega
            clear h3 c1 c2
            go_enter Tryd.func27, Tryd.ntmps27
            go_wp2
            go_ret
            exact ⟨by rw [HQ.out]; rfl, HB.out⟩
          · have c2' : decide ((12 : Int) < n) = false := by simp; omega
            have c3' : decide ((200 : Int) < p.size) = true := by simp; omega
            clear h3 c1 c2
            go_enter Tryd.func27, Tryd.ntmps27
            go_wp2
            go_ret
            exact ⟨by rw [HQ.out]; rfl, HB.out⟩
      · have c1 : decide ((8 : Int) < t.size) = false := by simp; omega
        have c2 : decide ((12 : Int) < n) = false := by simp; omega
        have c3 : decide ((200 : Int) < p.size) = false := by simp; omega
        have HE3 : Hid (_ = E) := (if_neg h3).symm.trans HE2.out
        have CO := hide (CO.out (by omega))
        clear HE2 h3
        by_cases h4 : O ≠ 0
        · have HQ : Hid (E = O) := by rw [← HE3.out, if_pos h4]; exact rfl
          have h4' : (O != 0) = true := by simp [h4]
          clear HE3 CB h4
          go_enter Tryd.func27, Tryd.ntmps27
          go_wp2_with fail
          refine (CO.out _ HB.out).mono ?_
          rintro e w1 ⟨rfl, hb1⟩
          have HB1 := hide (below_step HB.out hb1)
          clear hb1
          go_wp2
          go_ret
          exact ⟨by rw [HQ.out]; rfl, HB1.out⟩
        · have h4' : (O != 0) = false := by simpa using h4
          have HE4 : Hid (_ = E) := (if_neg h4).symm.trans HE3.out
          have hO : O = 0 := by simpa using h4
          subst hO
          clear HE3 h4 h4'
          have hcell : ∀ o, (w.alloc (.cells #[.int .i64 k, .int .i64 c, .int .i64 i, .string t, .slice ao n co, .string p] 24)).cell? ⟨w.heap.size, o, none⟩ = (#[.int .i64 k, .int .i64 c, .int .i64 i, .string t, .slice ao n co, .string p] : Array Value)[o]? := fun o => Lib.cell_of_heap (Go.heap_alloc_new w _) o
          have hws : w.heap.size < (w.alloc (.cells #[.int .i64 k, .int .i64 c, .int .i64 i, .string t, .slice ao n co, .string p] 24)).heap.size := by simp
          go_enter Tryd.func27, Tryd.ntmps27
          go_wp2_with fail
          refine (CO.out _ HB.out).mono ?_
          rintro e w1 ⟨rfl, hb1⟩
          have HB1 := hide (below_step HB.out hb1)
          have d1 : ∀ o, w1.cell? ⟨w.heap.size, o, none⟩ = (#[.int .i64 k, .int .i64 c, .int .i64 i, .string t, .slice ao n co, .string p] : Array Value)[o]? := fun o => (hb1.cell (p := ⟨w.heap.size, o, none⟩) hws).trans (hcell o)
          clear hb1 hcell hws
          by_cases h5 : c = 0
          · have h5' : (c == 0) = true := by simp [h5]
            cases B with
            | true =>
              have HQ : Hid (E = 0) := by rw [← HE4.out, if_neg (by simp)]; exact rfl
              clear HE4 h5
              go_wp2_with fail
              refine (CB.out _).mono ?_
              rintro e w2 ⟨rfl, hb2⟩
              have HB2 := hide (below_step HB1.out hb2)
              clear hb2
              go_wp2
              go_ret
              exact ⟨by rw [HQ.out]; rfl, HB2.out⟩
            | false =>
              have HQ : Hid (E = 1) := by rw [← HE4.out, if_pos ⟨h5, rfl⟩]; exact rfl
              clear HE4 h5
              go_wp2_with fail
              refine (CB.out _).mono ?_
              rintro e w2 ⟨rfl, hb2⟩
              have HB2 := hide (below_step HB1.out hb2)
              clear hb2
              go_wp2
              go_ret
              exact ⟨by rw [HQ.out]; rfl, HB2.out⟩
          · have h5' : (c == 0) = false := by simp [h5]
            have HQ : Hid (E = 0) := by rw [← HE4.out, if_neg (fun x => h5 x.1)]; exact rfl
            clear HE4 h5
            go_wp2
            go_ret
            exact ⟨by rw [HQ.out]; rfl, HB1.out⟩
end Go.Proofs.YtgmjdelgocbcaacDoor
