/-
  session.Check: what it answers.
-/
import Derived.Test.YtnhcecgmcmcioaaDoorSesSmall
namespace Go.Proofs.YtnhcecgmcmcioaaDoor
open Go.RowKit Go.PlainAid

theorem fl_cells (w : World) (x y z : Value) : ∀ o, (w.alloc (.cells #[x, y, z] 46)).cell? ⟨w.heap.size, o, none⟩ = (#[x, y, z] : Array Value)[o]? := fun o => Lib.cell_of_heap (Go.heap_alloc_new w _) o

set_option maxHeartbeats 4000000 in
theorem checkQueue_any (l : List Fl) (ao : Option Addr) (co : Nat) (w : World) (hl : FlsIn w ao l) (hn : l.length ≤ 1152921504606846976) (hm : Max w) :
    Calls Tryd.prog 39 #[.slice ao l.length co] w fun e w' => e = .returned (.int .i64 (qchkL l)) ∧ Below w.heap.size w w' := by
  generalize hE : qchkL l = E
  have HE := hide hE
  have HL := hide hl
  have CT := hide (fun t p W (hW : Below w.heap.size w W) => checkTold_any t p W (hm.below hW))
  clear hE hl hm
  go_enter Tryd.func39, Tryd.ntmps39
  go_wp2
  go_loopw [8] (fun i wr => ∃ k : Nat, k ≤ l.length ∧ i = .int .i64 k ∧ Hid (qchkL (l.drop k) = E ∧ Below w.heap.size w wr)) (fun i _ => l.length - (intOf i).toNat)
  case atStart => exact ⟨0, by omega, rfl, HE.out, Below.refl _ _⟩
  case round =>
    obtain ⟨k, hk, rfl, HR⟩ := hrel
    have hsz := HR.out.2.size
    by_cases hlt : k < l.length
    · obtain ⟨b, o, rfl, hb, hcell⟩ := fls_here HL.out hlt
      have hk1 : wr.cell? ⟨b, o + k * 3, none⟩ = some (.int .i64 l[k].id) := by rw [HR.out.2.cell (p := ⟨b, _, none⟩) hb]; exact (hcell k hlt).1
      have hk2 : wr.cell? ⟨b, o + k * 3 + 1, none⟩ = some (.string l[k].topic) := by rw [HR.out.2.cell (p := ⟨b, _, none⟩) hb]; exact (hcell k hlt).2.1
      have hk3 : wr.cell? ⟨b, o + k * 3 + 2, none⟩ = some (.string l[k].load) := by rw [HR.out.2.cell (p := ⟨b, _, none⟩) hb]; exact (hcell k hlt).2.2
      have HS : Hid (_ = E) := (qchkL_step l k hlt).symm.trans HR.out.1
      have HB := hide (HR.out.2.alloc hsz (.cells #[.int .i64 l[k].id, .string l[k].topic, .string l[k].load] 46))
      clear hcell HL HE
      generalize l[k] = x at *
      obtain ⟨n, t, p⟩ := x
      simp only at hk1 hk2 hk3 HS HB
      have C := hide (fun W hW => CT.out t p W hW)
      clear CT
      generalize toldE t p = O at *
      have d0 := fl_cells wr (.int .i64 n) (.string t) (.string p)
      have hz : wr.heap.size < (wr.alloc (.cells #[.int .i64 n, .string t, .string p] 46)).heap.size := by simp
      go_wp2_with fail
      refine (C.out _ HB.out).mono ?_
      rintro e w1 ⟨rfl, hb1⟩
      have HB1 := hide (HB.out.trans (hb1.mono HB.out.size))
      have q0 : w1.cell? ⟨wr.heap.size, 0, none⟩ = some (.int .i64 n) := (hb1.cell (p := ⟨wr.heap.size, 0, none⟩) hz).trans (d0 0)
      clear hb1 d0 hz HB C
      by_cases h1 : O = 0
      · have h1' : (O != 0) = false := by simp [h1]
        have HS1 : Hid (_ = E) := (if_neg (by simp [h1])).symm.trans HS.out
        clear HS
        by_cases h2 : n = 0
        · have h2' : (n != 0) = false := by simp [h2]
          have HQ : Hid (qchkL (l.drop (k + 1)) = E) := by have := HS1.out; rwa [if_neg (by simp [h2])] at this
          clear HS1 h1 h2
          go_wp2
          go_round
          case rel => exact ⟨k + 1, by omega, by go_num, HQ.out, HB1.out⟩
          case measure => simp [intOf]; omega
        · have h2' : (n != 0) = true := by simp [h2]
          have HQ : Hid (E = 1) := by rw [← HS1.out, if_pos h2]; exact rfl
          clear HS1 h1 h2
          go_wp2
          go_ret
          exact ⟨by rw [HQ.out]; rfl, HB1.out⟩
      · have h1' : (O != 0) = true := by simp [h1]
        have HQ : Hid (E = O) := by rw [← HS.out, if_pos h1]; exact rfl
        clear HS h1
        go_wp2
        go_ret
        exact ⟨by rw [HQ.out]; rfl, HB1.out⟩
    · have hke : l.drop k = [] := List.drop_eq_nil_of_le (by omega)
      have HQ : Hid (E = 0) := by have := HR.out.1; rw [hke, qchkL] at this; exact this.symm
      clear hke
      go_wp2
      go_ret
      exact ⟨by rw [HQ.out]; rfl, HR.out.2⟩

set_option maxHeartbeats 4000000 in
theorem checkFlights_any (l : List Fl) (ao : Option Addr) (co : Nat) (w : World) (hl : FlsIn w ao l) (hn : l.length ≤ 1048576) (hco : l.length ≤ co) (hm : Max w) :
    Calls Tryd.prog 38 #[.slice ao l.length co] w fun e w' => e = .returned (.int .i64 (fchkL [] l)) ∧ Below w.heap.size w w' := by
  generalize hE : fchkL [] l = E
  have HE := hide hE
  have HL := hide hl
  have CT := hide (fun t p W (hW : Below w.heap.size w W) => checkTold_any t p W (hm.below hW))
  have CI := hide (fun n W => isId_any n W)
  clear hE hl hm
  go_enter Tryd.func38, Tryd.ntmps38
  go_wp2
  go_loopw [8] (fun i wr => ∃ k : Nat, k ≤ l.length ∧ i = .int .i64 k ∧ Hid (fchkL (l.take k) (l.drop k) = E ∧ Below w.heap.size w wr)) (fun i _ => l.length - (intOf i).toNat)
  case atStart => exact ⟨0, by omega, rfl, HE.out, Below.refl _ _⟩
  case round =>
    obtain ⟨k, hk, rfl, HR⟩ := hrel
    have hsz := HR.out.2.size
    by_cases hlt : k < l.length
    · obtain ⟨b, o, rfl, hb, hcell⟩ := fls_here HL.out hlt
      have hk1 : wr.cell? ⟨b, o + k * 3, none⟩ = some (.int .i64 l[k].id) := by rw [HR.out.2.cell (p := ⟨b, _, none⟩) hb]; exact (hcell k hlt).1
      have hk2 : wr.cell? ⟨b, o + k * 3 + 1, none⟩ = some (.string l[k].topic) := by rw [HR.out.2.cell (p := ⟨b, _, none⟩) hb]; exact (hcell k hlt).2.1
      have hk3 : wr.cell? ⟨b, o + k * 3 + 2, none⟩ = some (.string l[k].load) := by rw [HR.out.2.cell (p := ⟨b, _, none⟩) hb]; exact (hcell k hlt).2.2
      have HS : Hid (_ = E) := (fchkL_step l k hlt).symm.trans HR.out.1
      have HB := hide (HR.out.2.alloc hsz (.cells #[.int .i64 l[k].id, .string l[k].topic, .string l[k].load] 46))
      have CC : Hid (∀ W, Below w.heap.size w W → Calls Tryd.prog 52 #[.slice (some ⟨b, o, none⟩) k co, .int .i64 l[k].id] W fun e w' => e = .returned (.bool ((l.take k).any (isI l[k].id))) ∧ Below W.heap.size W w') := fun W hW => by
        have hlen : (l.take k).length = k := by rw [List.length_take]; omega
        have := sesIsOf_any (l.take k) (some ⟨b, o, none⟩) co l[k].id W ((fls_take HL.out k).below hW) (by omega)
        rwa [hlen] at this
      clear hcell HL HE
      generalize (l.take k).any (isI l[k].id) = B at *
      generalize l[k] = x at *
      obtain ⟨n, t, p⟩ := x
      simp only at hk1 hk2 hk3 HS HB CC
      have C := hide (fun W hW => CT.out t p W hW)
      have CN := hide (fun W => CI.out n W)
      clear CT CI
      generalize toldE t p = O at *
      generalize idOk n = I at *
      have d0 := fl_cells wr (.int .i64 n) (.string t) (.string p)
      have hz : wr.heap.size < (wr.alloc (.cells #[.int .i64 n, .string t, .string p] 46)).heap.size := by simp
      have hkc : (k : Int) ≤ co := by omega
      have hk0 : (0 : Int) ≤ k := by omega
      go_wp2_with fail
      refine (C.out _ HB.out).mono ?_
      rintro e w1 ⟨rfl, hb1⟩
      have HB1 := hide (HB.out.trans (hb1.mono HB.out.size))
      have q0 : w1.cell? ⟨wr.heap.size, 0, none⟩ = some (.int .i64 n) := (hb1.cell (p := ⟨wr.heap.size, 0, none⟩) hz).trans (d0 0)
      have hz1 : wr.heap.size < w1.heap.size := Nat.lt_of_lt_of_le hz hb1.size
      clear hb1 d0 hz HB C
      by_cases h1 : O = 0
      · have h1' : (O != 0) = false := by simp [h1]
        have HS1 : Hid (_ = E) := (if_neg (by simp [h1])).symm.trans HS.out
        clear HS h1
        go_wp2_with fail
        refine (CN.out _).mono ?_
        rintro e wn ⟨rfl, hwn⟩
        subst wn
        cases I with
        | false =>
          have HQ : Hid (E = 3) := by rw [← HS1.out, if_pos rfl]; exact rfl
          clear HS1
          go_wp2
          go_ret
          exact ⟨by rw [HQ.out]; rfl, HB1.out⟩
        | true =>
          cases B with
          | true =>
            have HQ : Hid (E = 6) := by rw [← HS1.out, if_neg (by simp), if_pos rfl]; exact rfl
            clear HS1
            go_upto_region 9 with fail
            go_region_held3 (fun w' => w'.cell? ⟨wr.heap.size, 0, none⟩ = some (.int .i64 n)) (first | assumption | go_keep | fail)
              (first
                | (go_at_call 52; refine (CC.out _ (by first | exact HB1.out.drew)).mono ?_; rintro e wa ⟨rfl, hba⟩; have HBA := hide (HB1.out.drew.trans (hba.mono HB1.out.drew.size)); have j0 : wa.cell? ⟨wr.heap.size, 0, none⟩ = some (.int .i64 n) := (hba.cell (p := ⟨wr.heap.size, 0, none⟩) hz1).trans q0; clear hba)
                | fail)
            all_goals
              go_wp2
              go_ret
              exact ⟨by rw [HQ.out]; rfl, HBA.out⟩
          | false =>
            have HQ : Hid (fchkL (l.take (k + 1)) (l.drop (k + 1)) = E) := by have := HS1.out; rwa [if_neg (by simp), if_neg (by simp)] at this
            clear HS1
            go_upto_region 9 with fail
            go_region_held3 (fun w' => w'.cell? ⟨wr.heap.size, 0, none⟩ = some (.int .i64 n)) (first | assumption | go_keep | fail)
              (first
                | (go_at_call 52; refine (CC.out _ (by first | exact HB1.out.drew)).mono ?_; rintro e wa ⟨rfl, hba⟩; have HBA := hide (HB1.out.drew.trans (hba.mono HB1.out.drew.size)); have j0 : wa.cell? ⟨wr.heap.size, 0, none⟩ = some (.int .i64 n) := (hba.cell (p := ⟨wr.heap.size, 0, none⟩) hz1).trans q0; clear hba)
                | fail)
            all_goals
              go_wp2
              go_round
              case rel => exact ⟨k + 1, by omega, by go_num, HQ.out, HBA.out⟩
              case measure => simp [intOf]; omega
      · have h1' : (O != 0) = true := by simp [h1]
        have HQ : Hid (E = O) := by rw [← HS.out, if_pos h1]; exact rfl
        clear HS h1
        go_wp2
        go_ret
        exact ⟨by rw [HQ.out]; rfl, HB1.out⟩
    · have hke : l.drop k = [] := List.drop_eq_nil_of_le (by omega)
      have HQ : Hid (E = 0) := by have := HR.out.1; rw [hke, fchkL] at this; exact this.symm
      clear hke
      go_wp2
      go_ret
      exact ⟨by rw [HQ.out]; rfl, HR.out.2⟩
end Go.Proofs.YtnhcecgmcmcioaaDoor
