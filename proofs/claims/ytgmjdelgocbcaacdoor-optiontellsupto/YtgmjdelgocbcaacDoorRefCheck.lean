/-
  dragomanref.CheckMessage: what it answers.
-/
import Derived.Test.YtgmjdelgocbcaacDoorMsgCheck
import Derived.Test.YtgmjdelgocbcaacDoorBetween
import Derived.Deep.DeepCutAuto
import Derived.Deep.QuietTactic
import Derived.BigQuiet
namespace Go.Proofs.YtgmjdelgocbcaacDoor
open Go.RowKit Go.PlainAid

set_option maxHeartbeats 8000000 in
set_option maxRecDepth 100000 in
theorem rcheck_any (m : Mg) (ao : Option Addr) (co : Nat) (w : World) (hl : OptsIn w ao m.opts) :
    Calls Tryd.prog 14 #[mgV m ao co] w fun e w' => e = .returned (.int .i64 (chkM m)) ∧ Below w.heap.size w w' := by
  generalize hE : chkM m = E
  unfold chkM at hE
  have HBB := hide (show bareM m = (decide (m.token = ⟨#[]⟩) && decide (m.opts.length = 0) && decide (m.payload = ⟨#[]⟩)) from rfl)
  obtain ⟨k, c, i, t, l, p⟩ := m
  simp only [mgV] at hE hl HBB ⊢
  have HE := hide hE
  have HL := hide hl
  clear hE hl
  revert HE HBB
  generalize bareM ⟨k, c, i, t, l, p⟩ = B
  intro HBB HE
  have HB := hide ((Below.refl w.heap.size w).alloc (Nat.le_refl _) (.cells #[.int .i64 k, .int .i64 c, .int .i64 i, .string t, .slice ao l.length co, .string p] 24))
  have d0 : ∀ q, (w.alloc (.cells #[.int .i64 k, .int .i64 c, .int .i64 i, .string t, .slice ao l.length co, .string p] 24)).cell? ⟨w.heap.size, q, none⟩ = (#[.int .i64 k, .int .i64 c, .int .i64 i, .string t, .slice ao l.length co, .string p] : Array Value)[q]? := fun q => Lib.cell_of_heap (Go.heap_alloc_new w _) q
  have hs0 : (w.alloc (.cells #[.int .i64 k, .int .i64 c, .int .i64 i, .string t, .slice ao l.length co, .string p] 24)).heap.size = w.heap.size + 1 := by simp
  by_cases h1 : k < 0 ∨ 3 < k
  · have HQ : Hid (E = 7) := by rw [← HE.out, if_pos h1]; exact rfl
    have C1 : Hid (∀ W, Calls Tryd.prog 38 #[.int .i64 k, .int .i64 0, .int .i64 3] W fun e w' => e = .returned (.bool false) ∧ w' = W) := fun W => between_no k 0 3 W (by omega)
    clear HE h1
    go_enter Tryd.func14, Tryd.ntmps14
    go_wp2_with (go_at_call 38; refine (C1.out _).mono ?_; rintro e w' ⟨rfl, rfl⟩)
    go_ret
    exact ⟨by rw [HQ.out]; rfl, HB.out⟩
  · have C1 : Hid (∀ W, Calls Tryd.prog 38 #[.int .i64 k, .int .i64 0, .int .i64 3] W fun e w' => e = .returned (.bool true) ∧ w' = W) := fun W => between_yes k 0 3 W (by omega)
    have HE1 : Hid (_ = E) := (if_neg h1).symm.trans HE.out
    clear HE h1
    by_cases h2 : c < 0 ∨ 255 < c ∨ i < 0 ∨ 65535 < i
    · have HQ : Hid (E = 3) := by rw [← HE1.out, if_pos h2]; exact rfl
      clear HE1
      by_cases b1 : c < 0 ∨ 255 < c
      · have C2 : Hid (∀ W, Calls Tryd.prog 38 #[.int .i64 c, .int .i64 0, .int .i64 255] W fun e w' => e = .returned (.bool false) ∧ w' = W) := fun W => between_no c 0 255 W (by omega)
        clear h2 b1
        go_enter Tryd.func14, Tryd.ntmps14
        go_wp2_with fail
        refine (C1.out _).mono ?_
        rintro e w' ⟨rfl, rfl⟩
        go_wp2_with fail
        refine (C2.out _).mono ?_
        rintro e w' ⟨rfl, rfl⟩
        go_wp2
        go_ret
        exact ⟨by rw [HQ.out]; rfl, HB.out⟩
      · have C2 : Hid (∀ W, Calls Tryd.prog 38 #[.int .i64 c, .int .i64 0, .int .i64 255] W fun e w' => e = .returned (.bool true) ∧ w' = W) := fun W => between_yes c 0 255 W (by omega)
        have C3 : Hid (∀ W, Calls Tryd.prog 38 #[.int .i64 i, .int .i64 0, .int .i64 65535] W fun e w' => e = .returned (.bool false) ∧ w' = W) := fun W => between_no i 0 65535 W (by omega)
        clear h2 b1
        go_enter Tryd.func14, Tryd.ntmps14
        go_wp2_with fail
        refine (C1.out _).mono ?_
        rintro e w' ⟨rfl, rfl⟩
        go_wp2_with fail
        refine (C2.out _).mono ?_
        rintro e w' ⟨rfl, rfl⟩
        go_wp2_with fail
        refine (C3.out _).mono ?_
        rintro e w' ⟨rfl, rfl⟩
        go_wp2
        go_ret
        exact ⟨by rw [HQ.out]; rfl, HB.out⟩
    · have C2 : Hid (∀ W, Calls Tryd.prog 38 #[.int .i64 c, .int .i64 0, .int .i64 255] W fun e w' => e = .returned (.bool true) ∧ w' = W) := fun W => between_yes c 0 255 W (by omega)
      have C3 : Hid (∀ W, Calls Tryd.prog 38 #[.int .i64 i, .int .i64 0, .int .i64 65535] W fun e w' => e = .returned (.bool true) ∧ w' = W) := fun W => between_yes i 0 65535 W (by omega)
      have HE2 : Hid (_ = E) := (if_neg h2).symm.trans HE1.out
      clear HE1 h2
      go_enter Tryd.func14, Tryd.ntmps14
      go_wp2_with fail
      refine (C1.out _).mono ?_
      rintro e w' ⟨rfl, rfl⟩
      go_wp2_with fail
      refine (C2.out _).mono ?_
      rintro e w' ⟨rfl, rfl⟩
      go_wp2_with fail
      refine (C3.out _).mono ?_
      rintro e w' ⟨rfl, rfl⟩
      go_upto_region 5 with fail
      clear C1 C2 C3
      revert HB d0 hs0
      generalize w.alloc (.cells #[.int .i64 k, .int .i64 c, .int .i64 i, .string t, .slice ao l.length co, .string p] 24) = W0
      intro HB d0 hs0
      by_cases h3 : 8 < t.size ∨ 12 < l.length ∨ 200 < p.size
      · have HQ : Hid (E = 2) := by rw [← HE2.out, if_pos h3]; exact rfl
        clear HE2
        by_cases c1 : 8 < t.size
        · have c1' : decide ((8 : Int) < t.size) = true := by simp; omega
          clear h3 c1
          go_wp2
          go_ret
          exact ⟨by rw [HQ.out]; rfl, HB.out⟩
        · have c1' : decide ((8 : Int) < t.size) = false := by simp; omega
          by_cases c2 : 12 < l.length
          · have c2' : decide ((12 : Int) < l.length) = true := by simp; omega
            clear h3 c1 c2
            go_wp2
            go_ret
            exact ⟨by rw [HQ.out]; rfl, HB.out⟩
          · have c2' : decide ((12 : Int) < l.length) = false := by simp; omega
            have c3' : decide ((200 : Int) < p.size) = true := by simp; omega
            clear h3 c1 c2
            go_wp2
            go_ret
            exact ⟨by rw [HQ.out]; rfl, HB.out⟩
      · have c1 : decide ((8 : Int) < t.size) = false := by simp; omega
        have c2 : decide ((12 : Int) < l.length) = false := by simp; omega
        have c3 : decide ((200 : Int) < p.size) = false := by simp; omega
        have hn : l.length ≤ 12 := by omega
        have HE3 : Hid (_ = E) := (if_neg h3).symm.trans HE2.out
        clear HE2 h3
        go_upto_region 8 with fail
        generalize hO : optsE 0 l = O at *
        have HO := hide hO
        clear hO c1 c2 c3
        go_loopw [3] (fun ix wr => ∃ n : Nat, n ≤ l.length ∧ ix = .int .i64 n ∧ Hid (optsE (lastN 0 (l.take n)) (l.drop n) = O ∧ Below W0.heap.size W0 wr)) (fun ix _ => l.length - (intOf ix).toNat)
        case atStart => exact ⟨0, by omega, rfl, HO.out, Below.refl _ _⟩
        case round =>
          obtain ⟨n, hn', rfl, HR⟩ := hrel
          have hsr := HR.out.2.size
          have dr : ∀ q, wr.cell? ⟨w.heap.size, q, none⟩ = (#[.int .i64 k, .int .i64 c, .int .i64 i, .string t, .slice ao l.length co, .string p] : Array Value)[q]? := fun q => (HR.out.2.cell (p := ⟨w.heap.size, q, none⟩) (by show w.heap.size < _; omega)).trans (d0 q)
          by_cases hlt : n < l.length
          · obtain ⟨b, o, rfl, hb, hcell⟩ : ∃ b o, ao = some ⟨b, o, none⟩ ∧ b < w.heap.size ∧ ∀ i (h : i < l.length), w.cell? ⟨b, o + i * 2, none⟩ = some (.int .i64 l[i].1) ∧ w.cell? ⟨b, o + i * 2 + 1, none⟩ = some (.string l[i].2) := by
              rcases HL.out with rfl | h
              · simp at hlt
              · exact h
            have hcr : ∀ i (h : i < l.length), wr.cell? ⟨b, o + i * 2, none⟩ = some (.int .i64 l[i].1) ∧ wr.cell? ⟨b, o + i * 2 + 1, none⟩ = some (.string l[i].2) := fun i h => by
              have q := hcell i h
              rw [HR.out.2.cell (p := ⟨b, _, none⟩) (by show b < _; omega), HR.out.2.cell (p := ⟨b, _, none⟩) (by show b < _; omega), HB.out.cell (p := ⟨b, _, none⟩) hb, HB.out.cell (p := ⟨b, _, none⟩) hb]
              exact q
            obtain ⟨hk1, hk2⟩ := hcr n hlt
            have HP : Hid (∀ n', n = n' + 1 → lastN 0 (l.take n) = (l[n - 1]'(by omega)).1 ∧ wr.cell? ⟨b, o + (n - 1) * 2, none⟩ = some (.int .i64 (l[n - 1]'(by omega)).1)) := fun n' e => by
              subst e
              exact ⟨lastN_snoc 0 l n' (by omega), (hcr n' (by omega)).1⟩
            have HZ0 : Hid (n = 0 → lastN 0 (l.take n) = 0) := fun e => by subst e; rfl
            have HS : Hid (_ = O) := (optsE_step l n hlt).symm.trans HR.out.1
            have HLN := hide (lastN_snoc 0 l n hlt)
            clear hcell hcr HL HO
            revert HS HZ0 HP HR
            generalize lastN 0 (l.take n) = a
            intro HR HP HZ0 HS
            generalize l[n] = x at *
            obtain ⟨u, v⟩ := x
            simp only at hk1 hk2 HS HLN
            have HB1 : Hid (Below W0.heap.size W0 (wr.alloc (.cells #[.int .i64 u, .string v] 31))) := HR.out.2.alloc hsr _
            have x1 : ∀ q, (wr.alloc (.cells #[.int .i64 u, .string v] 31)).cell? ⟨wr.heap.size, q, none⟩ = (#[.int .i64 u, .string v] : Array Value)[q]? := fun q => Lib.cell_of_heap (Go.heap_alloc_new wr _) q
            have dr1 : ∀ q, (wr.alloc (.cells #[.int .i64 u, .string v] 31)).cell? ⟨w.heap.size, q, none⟩ = (#[.int .i64 k, .int .i64 c, .int .i64 i, .string t, .slice (some ⟨b, o, none⟩) l.length co, .string p] : Array Value)[q]? := fun q => (World.cell?_alloc_old _ _ _ (by show w.heap.size ≠ _; omega)).trans (dr q)
            have HP1 : Hid (∀ n', n = n' + 1 → a = (l[n - 1]'(by omega)).1 ∧ (wr.alloc (.cells #[.int .i64 u, .string v] 31)).cell? ⟨b, o + (n - 1) * 2, none⟩ = some (.int .i64 (l[n - 1]'(by omega)).1)) := fun n' e => ⟨(HP.out n' e).1, (World.cell?_alloc_old _ _ _ (by show b ≠ _; omega)).trans (HP.out n' e).2⟩
            go_upto_region 11 with fail
            revert HB1 x1 dr1 HP1
            generalize (wr.alloc (.cells #[.int .i64 u, .string v] 31)) = W1
            intro HB1 x1 dr1 HP1
            have HBW := hide (HB.out.trans (HB1.out.mono HB.out.size))
            clear dr hk1 hk2 HP HR
            by_cases r1 : u < 0 ∨ 65535 < u
            · have HQ : Hid (O = 3) := by rw [← HS.out, if_pos r1]; exact rfl
              have HQ2 : Hid (E = 3) := by rw [← HE3.out, HQ.out]; exact rfl
              have C4 : Hid (∀ W, Calls Tryd.prog 38 #[.int .i64 u, .int .i64 0, .int .i64 65535] W fun e w' => e = .returned (.bool false) ∧ w' = W) := fun W => between_no u 0 65535 W (by omega)
              clear r1
              go_wp2_with fail
              refine (C4.out _).mono ?_
              rintro e w' ⟨rfl, rfl⟩
              go_wp2
              go_ret
              exact ⟨by rw [HQ2.out]; rfl, HBW.out⟩
            · have C4 : Hid (∀ W, Calls Tryd.prog 38 #[.int .i64 u, .int .i64 0, .int .i64 65535] W fun e w' => e = .returned (.bool true) ∧ w' = W) := fun W => between_yes u 0 65535 W (by omega)
              have HS1 : Hid (_ = O) := (if_neg r1).symm.trans HS.out
              have hu0 : 0 ≤ u := by omega
              clear r1 HS
              go_wp2_with fail
              refine (C4.out _).mono ?_
              rintro e W1x ⟨rfl, rfl⟩
              go_upto_region 13 with fail
              go_cut [64] (fun q wx => ∃ j, q = .bool (decide (u < a)) ∧ wx = W1x.drewN j)
              case first =>
                cases n with
                | zero =>
                  have ha : a = 0 := HZ0.out rfl
                  have HD : Hid (decide (u < a) = false) := by show _ = _; rw [ha]; simp; omega
                  go_wp2_with fail
                  go_quiet (fail)
                  go_wp2_with fail
                  go_meet
                  case rel => exact ⟨_, by rw [HD.out], rfl⟩
                | succ n' =>
                  obtain ⟨ha, hpc⟩ := HP1.out n' rfl
                  simp only [Nat.add_sub_cancel] at ha hpc
                  have hg : decide ((0 : Int) < ((n' + 1 : Nat) : Int)) = true := by simp
                  have HA := hide ha
                  generalize (l[n']'(by omega)).1 = pv at *
                  clear ha
                  go_wp2_with fail
                  go_quiet (fail)
                  go_wp2_with fail
                  go_meet
                  case rel => exact ⟨_, by rw [HA.out], rfl⟩
              case rest =>
                obtain ⟨j, rfl, rfl⟩ := hcut
                have HBj : Hid (Below w.heap.size w (W1x.drewN j)) := ⟨HBW.out.os, HBW.out.tape, HBW.out.output, HBW.out.size, HBW.out.block⟩
                have HB1j : Hid (Below W0.heap.size W0 (W1x.drewN j)) := ⟨HB1.out.os, HB1.out.tape, HB1.out.output, HB1.out.size, HB1.out.block⟩
                by_cases r2 : u < a
                · have HQ : Hid (O = 4) := by rw [← HS1.out, if_pos r2]; exact rfl
                  have HQ2 : Hid (E = 4) := by rw [← HE3.out, HQ.out]; exact rfl
                  go_wp2
                  go_ret
                  exact ⟨by rw [HQ2.out]; rfl, HBj.out⟩
                · have HS2 : Hid (_ = O) := (if_neg r2).symm.trans HS1.out
                  clear HS1
                  by_cases r3 : 60 < v.size
                  · have HQ : Hid (O = 2) := by rw [← HS2.out, if_pos r3]; exact rfl
                    have HQ2 : Hid (E = 2) := by rw [← HE3.out, HQ.out]; exact rfl
                    have r3' : (60 : Int) < v.size := by omega
                    go_wp2
                    go_ret
                    exact ⟨by rw [HQ2.out]; rfl, HBj.out⟩
                  · have HS3 : Hid (optsE (lastN 0 (l.take (n + 1))) (l.drop (n + 1)) = O) := (if_neg r3).symm.trans HS2.out
                    have r3' : ¬ (60 : Int) < v.size := by omega
                    clear HS2
                    go_wp2
                    go_round
                    case rel => exact ⟨n + 1, by omega, by go_num, HS3.out, HB1j.out⟩
                    case measure => simp [intOf]; omega
          · have hke : l.drop n = [] := List.drop_eq_nil_of_le (by omega)
            have HQ : Hid (O = 0) := by have := HR.out.1; rw [hke, optsE] at this; exact this.symm
            have HBr := hide (HB.out.trans (HR.out.2.mono HB.out.size))
            have hge : (l.length : Int) ≤ n := by omega
            clear hke HR hlt hn'
            have HE4 : Hid ((if c = 0 ∧ B = false then (1 : Int) else 0) = E) := by have := HE3.out; rw [HQ.out, if_neg (by simp)] at this; exact this
            clear HE3 HQ HO
            by_cases h5 : c = 0
            · have h5' : (c == 0) = true := by simp [h5]
              by_cases q1 : t = ⟨#[]⟩
              · have q1' : (t.toList == []) = true := txt_yes (l := []) q1
                by_cases q2 : p = ⟨#[]⟩
                · have q2' : (p.toList == []) = true := txt_yes (l := []) q2
                  by_cases q3 : l.length = 0
                  · have HQ : Hid (E = 0) := by rw [← HE4.out, if_neg (by rw [HBB.out]; simp [q1, q2, q3])]; exact rfl
                    have q3' : decide ((0 : Int) < l.length) = false := by simp [q3]
                    have q3n : decide (0 < l.length) = false := by simp [q3]
                    clear h5 q1 q2 q3
                    go_wp2
                    go_ret
                    exact ⟨by rw [HQ.out]; rfl, HBr.out⟩
                  · have HQ : Hid (E = 1) := by rw [← HE4.out, if_pos ⟨h5, by rw [HBB.out]; simp [q3]⟩]; exact rfl
                    have q3' : decide ((0 : Int) < l.length) = true := by simp; omega
                    have q3n : decide (0 < l.length) = true := by simp; omega
                    clear h5 q1 q2 q3
                    go_wp2
                    go_ret
                    exact ⟨by rw [HQ.out]; rfl, HBr.out⟩
                · have q2' : (p.toList == []) = false := txt_no (l := []) q2
                  have HQ : Hid (E = 1) := by rw [← HE4.out, if_pos ⟨h5, by rw [HBB.out]; simp [q2]⟩]; exact rfl
                  clear h5 q1 q2
                  go_wp2
                  go_ret
                  exact ⟨by rw [HQ.out]; rfl, HBr.out⟩
              · have q1' : (t.toList == []) = false := txt_no (l := []) q1
                have HQ : Hid (E = 1) := by rw [← HE4.out, if_pos ⟨h5, by rw [HBB.out]; simp [q1]⟩]; exact rfl
                clear h5 q1
                go_wp2
                go_ret
                exact ⟨by rw [HQ.out]; rfl, HBr.out⟩
            · have h5' : (c == 0) = false := by simp [h5]
              have HQ : Hid (E = 0) := by rw [← HE4.out, if_neg (fun x => h5 x.1)]; exact rfl
              clear h5
              go_wp2
              go_ret
              exact ⟨by rw [HQ.out]; rfl, HBr.out⟩
end Go.Proofs.YtgmjdelgocbcaacDoor
