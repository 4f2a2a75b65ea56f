/-
  dragomanref.CheckWatch, CheckWatches: what they answer.
-/
import Derived.Test.YtbodjfmbdddieafDoorWatchMath
import Derived.Test.YtbodjfmbdddieafDoorBetween
import Derived.Test.YtbodjfmbdddieafDoorTopicCheckWalk
import Derived.Deep.QuietTactic
import Derived.BigQuiet
namespace Go.Proofs.YtbodjfmbdddieafDoor
open Go.RowKit Go.PlainAid

def chkQ (p : Int) (t n : ByteArray) : Int := if waskE p t ≠ 0 then waskE p t else chk nameF n
theorem wchkO_Q (k : Wt) : wchkO k = if chkQ k.peer k.token k.topic ≠ 0 then chkQ k.peer k.token k.topic else if seqOk k.num = false then 3 else 0 := by
  unfold wchkO chkQ
  by_cases h : waskE k.peer k.token = 0
  · rw [h]; simp
  · simp [h]

set_option maxHeartbeats 1000000 in
theorem refWatch_any (p : Int) (t n : ByteArray) (w : World) (hn : n.size ≤ 1048576) :
    Calls Tryd.prog 15 #[.int .i64 p, .string t, .string n] w fun e w' => e = .returned (.int .i64 (chkQ p t n)) ∧ Below w.heap.size w w' := by
  have C : Hid (Calls Tryd.prog 7 #[.string n, .bool false] w fun e w' => e = .returned (.int .i64 (chk nameF n)) ∧ Below w.heap.size w w') := checkTopic_any n false w hn
  unfold chkQ waskE
  clear hn
  by_cases h1 : p < 0 ∨ 9 < p
  · have CB := hide (fun W => between_no p 0 9 W (by omega))
    rw [if_pos h1, if_pos (by decide)]
    clear h1 C
    go_enter Tryd.func15, Tryd.ntmps15
    go_wp2_with fail
    refine (CB.out _).mono ?_
    rintro e w1 ⟨rfl, hw⟩
    subst hw
    go_wp2
    go_ret
    exact ⟨rfl, Below.refl _ _⟩
  · have CB := hide (fun W => between_yes p 0 9 W (by omega))
    rw [if_neg h1]
    clear h1
    by_cases h2 : (8 : Int) < t.size
    · rw [if_pos (show 8 < t.size by omega), if_pos (by decide)]
      clear C
      go_enter Tryd.func15, Tryd.ntmps15
      go_wp2_with fail
      refine (CB.out _).mono ?_
      rintro e w1 ⟨rfl, hw⟩
      subst hw
      go_wp2
      go_ret
      exact ⟨rfl, Below.refl _ _⟩
    · rw [if_neg (show ¬ 8 < t.size by omega), if_neg (by decide)]
      go_enter Tryd.func15, Tryd.ntmps15
      go_wp2_with fail
      refine (CB.out _).mono ?_
      rintro e w1 ⟨rfl, hw⟩
      subst hw
      go_wp2_with fail
      refine C.out.mono ?_
      rintro e w2 ⟨rfl, hb⟩
      have HB := hide hb
      clear hb
      go_wp2
      go_ret
      exact ⟨rfl, HB.out⟩

theorem any_more {l : List Wt} {j : Nat} {p : Int} {t : ByteArray} (h : j < l.length) (ha : (l.take j).any (isW p t) = false) (hj : isW p t l[j] = false) : (l.take (j + 1)).any (isW p t) = false := by
  rw [List.take_succ_eq_append_getElem h, List.any_append, ha]
  simp [hj]
theorem any_hit {l : List Wt} {j k : Nat} {p : Int} {t : ByteArray} (h : j < l.length) (hk : j < k) (hj : isW p t l[j] = true) : (l.take k).any (isW p t) = true := by
  refine List.any_eq_true.2 ⟨l[j], ?_, hj⟩
  rw [List.mem_take_iff_getElem]
  exact ⟨j, by omega, rfl⟩

set_option maxHeartbeats 8000000 in
set_option maxRecDepth 100000 in
theorem checkWatches_any (l : List Wt) (ao : Option Addr) (co : Nat) (w : World) (hl : WtsIn w ao l) (hs : ∀ k ∈ l, k.topic.size ≤ 1048576) :
    Calls Tryd.prog 6 #[.slice ao l.length co] w fun e w' => e = .returned (.int .i64 (wchkK l)) ∧ Below w.heap.size w w' := by
  by_cases hn : 12 < l.length
  · have hE : wchkK l = 2 := if_pos hn
    rw [hE]
    have hn' : (12 : Int) < l.length := by omega
    clear hl hE hn hs
    go_enter Tryd.func6, Tryd.ntmps6
    go_wp2
    go_ret
    exact ⟨rfl, Below.refl _ _⟩
  · have hE : wchkK l = wchkL [] l := if_neg hn
    rw [hE]
    clear hE
    generalize hE : wchkL [] l = E
    have HE := hide hE
    have HL := hide hl
    have HSZ := hide hs
    clear hE hl hs
    go_enter Tryd.func6, Tryd.ntmps6
    go_wp2
    go_loopw [3] (fun i wr => ∃ k : Nat, k ≤ l.length ∧ i = .int .i64 k ∧ Hid (wchkL (l.take k) (l.drop k) = E ∧ Below w.heap.size w wr)) (fun i _ => l.length - (intOf i).toNat)
    case atStart => exact ⟨0, by omega, rfl, HE.out, Below.refl _ _⟩
    case round =>
      obtain ⟨k, hk, rfl, HR⟩ := hrel
      have hsz := HR.out.2.size
      by_cases hlt : k < l.length
      · obtain ⟨b, o, rfl, hb, hcell⟩ := wts_here (HL.out.below HR.out.2) hlt
        have HCELL := hide hcell
        obtain ⟨hk1, hk2, hk3, hk4⟩ := hcell k hlt
        have HS : Hid (_ = E) := (wchkL_step l k hlt).symm.trans HR.out.1
        have C : Hid (∀ W, Calls Tryd.prog 15 #[.int .i64 l[k].peer, .string l[k].token, .string l[k].topic] W fun e w' => e = .returned (.int .i64 (chkQ l[k].peer l[k].token l[k].topic)) ∧ Below W.heap.size W w') := fun W => refWatch_any _ _ _ W (HSZ.out _ (List.getElem_mem _))
        have HBR := hide HR.out.2
        clear hcell HL HE HSZ HR
        rw [wchkO_Q] at HS
        generalize hQ : chkQ l[k].peer l[k].token l[k].topic = Q at *
        clear hQ
        generalize hp : l[k].peer = p at *
        generalize ht : l[k].token = t at *
        generalize hn : l[k].topic = n at *
        generalize hv : l[k].num = v at *
        clear hn hv
        have hbz : b < wr.heap.size := hb
        have hkl : (k : Int) < l.length := by omega
        go_wp2_with fail
        go_region_held3 (fun w' => w'.cell? ⟨b, o + k * 4, none⟩ = some (.int .i64 p) ∧ w'.cell? ⟨b, o + k * 4 + 1, none⟩ = some (.string t) ∧ w'.cell? ⟨b, o + k * 4 + 2, none⟩ = some (.string n)) (first | (refine ⟨?_, ?_, ?_⟩ <;> assumption) | go_keep | fail)
          (first
            | (go_at_call 15; refine (C.out _).mono ?_; rintro e wa ⟨rfl, hba⟩; have HBA := hide (HBR.out.drew.trans (hba.mono HBR.out.drew.size)); have i0 : wa.cell? ⟨b, o + k * 4, none⟩ = some (.int .i64 p) := (hba.cell (p := ⟨b, _, none⟩) hbz).trans hk1; have i1 : wa.cell? ⟨b, o + k * 4 + 1, none⟩ = some (.string t) := (hba.cell (p := ⟨b, _, none⟩) hbz).trans hk2; have i2 : wa.cell? ⟨b, o + k * 4 + 2, none⟩ = some (.string n) := (hba.cell (p := ⟨b, _, none⟩) hbz).trans hk3; have HIA : Hid (Below wr.heap.size wr wa) := hide ((Below.refl wr.heap.size wr).drew.trans hba); clear hba)
            | fail)
        have i3 : wa.cell? ⟨b, o + k * 4 + 3, none⟩ = some (.int .i64 v) := (HIA.out.cell (p := ⟨b, _, none⟩) hbz).trans hk4
        have hbza : b < wa.heap.size := Nat.lt_of_lt_of_le hbz HIA.out.size
        have HCA : Hid (∀ i (h : i < l.length), wa.cell? ⟨b, o + i * 4, none⟩ = some (.int .i64 l[i].peer) ∧ wa.cell? ⟨b, o + i * 4 + 1, none⟩ = some (.string l[i].token)) := fun i hi => ⟨(HIA.out.cell (p := ⟨b, _, none⟩) hbz).trans (HCELL.out i hi).1, (HIA.out.cell (p := ⟨b, _, none⟩) hbz).trans (HCELL.out i hi).2.1⟩
        clear hk1 hk2 hk3 hk4 HCELL HIA C
        have CB : Hid (∀ W, Calls Tryd.prog 16 #[.int .i64 v, .int .i64 0, .int .i64 16777215] W fun e w' => e = .returned (.bool (seqOk v)) ∧ w' = W) := fun W => between_any v 0 16777215 W
        by_cases h1 : Q = 0
        · have h1' : (Q != 0) = false := by simp [h1]
          rw [if_neg (show ¬ Q ≠ 0 by simp [h1])] at HS
          clear h1
          generalize seqOk v = B at *
          cases B with
          | false =>
            have HQ : Hid (E = 3) := by rw [← HS.out, if_pos rfl, if_pos (by decide)]; exact rfl
            go_wp2_with fail
            refine (CB.out _).mono ?_
            rintro e w2 ⟨rfl, hw⟩
            subst hw
            go_wp2
            go_ret
            exact ⟨by rw [HQ.out]; rfl, HBA.out⟩
          | true =>
            have HS1 : Hid ((if (l.take k).any (isW p t) = true then 6 else wchkL (l.take (k + 1)) (l.drop (k + 1))) = E) := by have := HS.out; rwa [if_neg (show ¬ (true = false) by decide), if_neg (by decide)] at this
            clear HS
            go_wp2_with fail
            refine (CB.out _).mono ?_
            rintro e w2 ⟨rfl, hw⟩
            subst hw
            clear CB
            go_wp2
            go_loopw [5] (fun i wr => ∃ j : Nat, j ≤ k ∧ i = .int .i64 j ∧ Hid ((l.take j).any (isW p t) = false ∧ Below w2.heap.size w2 wr)) (fun i _ => k - (intOf i).toNat)
            case atStart => exact ⟨0, by omega, rfl, by simp, Below.refl _ _⟩
            case round =>
              obtain ⟨j, hj, rfl, HJ⟩ := hrel
              by_cases hjk : j < k
              · obtain ⟨c0, c1⟩ := HCA.out j (by omega)
                have g0 := (HJ.out.2.cell (p := ⟨b, o + k * 4, none⟩) hbza).trans i0
                have g1 := (HJ.out.2.cell (p := ⟨b, o + k * 4 + 1, none⟩) hbza).trans i1
                have f0 := (HJ.out.2.cell (p := ⟨b, o + j * 4, none⟩) hbza).trans c0
                have f1 := (HJ.out.2.cell (p := ⟨b, o + j * 4 + 1, none⟩) hbza).trans c1
                have HBJ := hide (HBA.out.trans (HJ.out.2.mono HBA.out.size))
                have HJB := hide HJ.out.2
                have HW : Hid (isW p t l[j] = (decide (l[j].peer = p) && decide (l[j].token = t))) := rfl
                have HM1 : Hid (isW p t l[j] = false → (l.take (j + 1)).any (isW p t) = false) := fun h => any_more (by omega) HJ.out.1 h
                have HM2 : Hid (isW p t l[j] = true → E = 6) := fun h => by rw [← HS1.out, if_pos (any_hit (by omega) hjk h)]
                have hjl : (j : Int) < l.length := by omega
                have HT := hide (txt_eq l[j].token t)
                clear c0 c1 i0 i1 i2 i3 HCA HJ HS1
                generalize isW p t l[j] = Y at *
                generalize l[j].peer = q at *
                generalize l[j].token = u at *
                by_cases h2 : q = p
                · have h2' : (q == p) = true := by simp [h2]
                  by_cases h3 : u = t
                  · have h3' : (u.toList == t.toList) = true := by rw [HT.out, decide_eq_true h3]
                    have HQ : Hid (E = 6) := HM2.out (by rw [HW.out, decide_eq_true h2, decide_eq_true h3]; rfl)
                    clear HT HW HM1 HM2 h2 h3
                    go_wp2_with fail
                    go_big_quiet (fail)
                    go_wp2
                    go_ret
                    exact ⟨by rw [HQ.out]; rfl, kbelow_drewN HBJ.out _⟩
                  · have h3' : (u.toList == t.toList) = false := by rw [HT.out, decide_eq_false h3]
                    have HQ := hide (HM1.out (by rw [HW.out, decide_eq_true h2, decide_eq_false h3]; rfl))
                    clear HT HW HM1 HM2 h2 h3
                    go_wp2_with fail
                    go_big_quiet (fail)
                    go_wp2
                    go_round
                    case rel => exact ⟨j + 1, by omega, by go_num, HQ.out, kbelow_drewN HJB.out _⟩
                    case measure => simp [intOf]; omega
                · have h2' : (q == p) = false := by simp [h2]
                  have HQ := hide (HM1.out (by rw [HW.out, decide_eq_false h2]; rfl))
                  clear HT HW HM1 HM2 h2
                  go_wp2_with fail
                  go_big_quiet (fail)
                  go_wp2
                  go_round
                  case rel => exact ⟨j + 1, by omega, by go_num, HQ.out, kbelow_drewN HJB.out _⟩
                  case measure => simp [intOf]; omega
              · obtain rfl : j = k := by omega
                have HQ : Hid (wchkL (l.take (j + 1)) (l.drop (j + 1)) = E) := by show _ = _; rw [← HS1.out, HJ.out.1, if_neg (by decide)]
                have HBJ := hide (HBA.out.trans (HJ.out.2.mono HBA.out.size))
                clear HS1 HJ
                go_wp2
                go_round
                case rel => exact ⟨j + 1, by omega, by go_num, HQ.out, HBJ.out⟩
                case measure => simp [intOf]; omega
        · have h1' : (Q != 0) = true := by simp [h1]
          have HQ : Hid (E = Q) := by rw [← HS.out, if_pos h1, if_pos h1]; exact rfl
          clear HS h1
          go_wp2
          go_ret
          exact ⟨by rw [HQ.out]; rfl, HBA.out⟩
      · have hke : l.drop k = [] := List.drop_eq_nil_of_le (by omega)
        have HQ : Hid (E = 0) := by have := HR.out.1; rw [hke, wchkL] at this; exact this.symm
        clear hke
        go_wp2
        go_ret
        exact ⟨by rw [HQ.out]; rfl, HR.out.2⟩
end Go.Proofs.YtbodjfmbdddieafDoor
