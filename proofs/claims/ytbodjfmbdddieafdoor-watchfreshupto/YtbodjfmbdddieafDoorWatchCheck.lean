/-
  slices.IndexFunc, ContainsFunc of watches, watch.Check, without: what they answer.
-/
import Derived.Test.YtbodjfmbdddieafDoorWatchSmall
import Derived.Test.YtbodjfmbdddieafDoorWatchClone
namespace Go.Proofs.YtbodjfmbdddieafDoor
open Go.RowKit Go.PlainAid

def idxW (p : Int) (t : ByteArray) : Nat → List Wt → Int
  | _, [] => -1
  | i, b :: l => if isW p t b = true then i else idxW p t (i + 1) l
theorem idxW_step (p : Int) (t : ByteArray) (l : List Wt) (k : Nat) (h : k < l.length) : idxW p t k (l.drop k) = if isW p t l[k] = true then (k : Int) else idxW p t (k + 1) (l.drop (k + 1)) := by
  rw [List.drop_eq_getElem_cons h, idxW]
theorem idxW_at (p : Int) (t : ByteArray) : ∀ (l : List Wt) (i : Nat), decide (0 ≤ idxW p t i l) = l.any (isW p t)
  | [], i => by simp [idxW]
  | b :: l, i => by
    rw [idxW, List.any_cons]
    cases h : isW p t b with
    | false => simp only [Bool.false_or]; rw [if_neg (by simp)]; exact idxW_at p t l (i + 1)
    | true => simp

set_option maxHeartbeats 2000000 in
theorem windex_any (l : List Wt) (ao : Option Addr) (co c : Nat) (p : Int) (t : ByteArray) (w : World) (hl : WtsIn w ao l) (hn : l.length ≤ 1152921504606846976) (hA : Asks c p t w) :
    Calls Tryd.prog 33 #[.slice ao l.length co, .func (.func 34) #[] #[.pointer (some ⟨c, 0, none⟩), .pointer (some ⟨c + 1, 0, none⟩)]] w fun e w' => e = .returned (.int .i64 (idxW p t 0 l)) ∧ Below w.heap.size w w' := by
  generalize hE : idxW p t 0 l = E
  have HE := hide hE
  have HL := hide hl
  have CL : Hid (∀ k W, Below w.heap.size w W → Calls Tryd.prog 34 #[wtV k, .pointer (some ⟨c, 0, none⟩), .pointer (some ⟨c + 1, 0, none⟩)] W fun e w' => e = .returned (.bool (isW p t k)) ∧ Below W.heap.size W w') := fun k W h => lit_isOf k c p t W (hA.below h)
  clear hE hl hA
  generalize c + 1 = c1 at *
  go_enter Tryd.func33, Tryd.ntmps33
  go_wp2
  go_loopw [8] (fun i wr => ∃ k : Nat, k ≤ l.length ∧ i = .int .i64 k ∧ Hid (idxW p t k (l.drop k) = E ∧ Below w.heap.size w wr)) (fun i _ => l.length - (intOf i).toNat)
  case atStart => exact ⟨0, by omega, rfl, HE.out, Below.refl _ _⟩
  case round =>
    obtain ⟨k, hk, rfl, HR⟩ := hrel
    have hsz := HR.out.2.size
    by_cases hlt : k < l.length
    · obtain ⟨b, o, rfl, hb, hcell⟩ := wts_here HL.out hlt
      have hk1 : wr.cell? ⟨b, o + k * 4, none⟩ = some (.int .i64 l[k].peer) := by rw [HR.out.2.cell (p := ⟨b, _, none⟩) hb]; exact (hcell k hlt).1
      have hk2 : wr.cell? ⟨b, o + k * 4 + 1, none⟩ = some (.string l[k].token) := by rw [HR.out.2.cell (p := ⟨b, _, none⟩) hb]; exact (hcell k hlt).2.1
      have hk3 : wr.cell? ⟨b, o + k * 4 + 2, none⟩ = some (.string l[k].topic) := by rw [HR.out.2.cell (p := ⟨b, _, none⟩) hb]; exact (hcell k hlt).2.2.1
      have hk4 : wr.cell? ⟨b, o + k * 4 + 3, none⟩ = some (.int .i64 l[k].num) := by rw [HR.out.2.cell (p := ⟨b, _, none⟩) hb]; exact (hcell k hlt).2.2.2
      have HS : Hid (_ = E) := (idxW_step p t l k hlt).symm.trans HR.out.1
      clear hcell HL HE
      have C := hide (CL.out l[k])
      clear CL
      generalize l[k] = x at *
      generalize hB : isW p t x = B at *
      clear hB
      obtain ⟨xp, xt, xn, xv⟩ := x
      simp only [wtV] at hk1 hk2 hk3 hk4 C
      cases B with
      | false =>
        have HQ : Hid (idxW p t (k + 1) (l.drop (k + 1)) = E) := by have := HS.out; rwa [if_neg (by simp)] at this
        go_wp2_with fail
        refine (C.out _ HR.out.2).mono ?_
        rintro e w1 ⟨rfl, hb1⟩
        have HB1 := hide (HR.out.2.trans (hb1.mono hsz))
        clear hb1
        go_wp2
        go_round
        case rel => exact ⟨k + 1, by omega, by go_num, HQ.out, HB1.out⟩
        case measure => simp [intOf]; omega
      | true =>
        have HQ : Hid (E = k) := by have := HS.out; rw [if_pos rfl] at this; exact this.symm
        go_wp2_with fail
        refine (C.out _ HR.out.2).mono ?_
        rintro e w1 ⟨rfl, hb1⟩
        have HB1 := hide (HR.out.2.trans (hb1.mono hsz))
        clear hb1
        go_wp2
        go_ret
        exact ⟨by rw [HQ.out]; rfl, HB1.out⟩
    · have hke : l.drop k = [] := List.drop_eq_nil_of_le (by omega)
      have HQ : Hid (E = -1) := by have := HR.out.1; rw [hke, idxW] at this; exact this.symm
      clear hke
      go_wp2
      go_ret
      exact ⟨by rw [HQ.out]; rfl, HR.out.2⟩

theorem wcontains_any (l : List Wt) (ao : Option Addr) (co c : Nat) (p : Int) (t : ByteArray) (w : World) (hl : WtsIn w ao l) (hn : l.length ≤ 1152921504606846976) (hA : Asks c p t w) :
    Calls Tryd.prog 25 #[.slice ao l.length co, .func (.func 34) #[] #[.pointer (some ⟨c, 0, none⟩), .pointer (some ⟨c + 1, 0, none⟩)]] w fun e w' => e = .returned (.bool (l.any (isW p t))) ∧ Below w.heap.size w w' := by
  have C := hide (windex_any l ao co c p t w hl hn hA)
  have HI := hide (idxW_at p t l 0)
  revert C HI
  generalize idxW p t 0 l = I
  generalize l.any (isW p t) = B
  intro C HI
  clear hl hA
  go_enter Tryd.func25, Tryd.ntmps25
  go_wp2_with fail
  refine C.out.mono ?_
  rintro e w1 ⟨rfl, hb1⟩
  have HB1 := hide hb1
  clear hb1
  go_wp2
  go_ret
  exact ⟨by rw [← HI.out]; rfl, HB1.out⟩

set_option maxHeartbeats 4000000 in
theorem wcheck_any (l : List Wt) (ao : Option Addr) (co : Nat) (w : World) (hl : WtsIn w ao l) (hco : l.length ≤ co) (hm : Max w) :
    Calls Tryd.prog 9 #[.slice ao l.length co] w fun e w' => e = .returned (.int .i64 (wchkK l)) ∧ Below w.heap.size w w' := by
  by_cases hn : 12 < l.length
  · have hE : wchkK l = 2 := if_pos hn
    rw [hE]
    have hn' : (12 : Int) < l.length := by omega
    clear hl hm hE hn
    go_enter Tryd.func9, Tryd.ntmps9
    go_wp2
    go_ret
    exact ⟨rfl, Below.refl _ _⟩
  · have hE : wchkK l = wchkL [] l := if_neg hn
    rw [hE]
    clear hE
    generalize hE : wchkL [] l = E
    have HE := hide hE
    have HL := hide hl
    have HM := hide hm
    have CI := hide (fun p t W => isOf_any p t W)
    clear hE hl hm
    go_enter Tryd.func9, Tryd.ntmps9
    go_wp2
    go_loopw [11] (fun i wr => ∃ k : Nat, k ≤ l.length ∧ i = .int .i64 k ∧ Hid (wchkL (l.take k) (l.drop k) = E ∧ Below w.heap.size w wr)) (fun i _ => l.length - (intOf i).toNat)
    case atStart => exact ⟨0, by omega, rfl, HE.out, Below.refl _ _⟩
    case round =>
      obtain ⟨k, hk, rfl, HR⟩ := hrel
      have hsz := HR.out.2.size
      by_cases hlt : k < l.length
      · obtain ⟨b, o, rfl, hb, hcell⟩ := wts_here HL.out hlt
        have hk1 : wr.cell? ⟨b, o + k * 4, none⟩ = some (.int .i64 l[k].peer) := by rw [HR.out.2.cell (p := ⟨b, _, none⟩) hb]; exact (hcell k hlt).1
        have hk2 : wr.cell? ⟨b, o + k * 4 + 1, none⟩ = some (.string l[k].token) := by rw [HR.out.2.cell (p := ⟨b, _, none⟩) hb]; exact (hcell k hlt).2.1
        have hk3 : wr.cell? ⟨b, o + k * 4 + 2, none⟩ = some (.string l[k].topic) := by rw [HR.out.2.cell (p := ⟨b, _, none⟩) hb]; exact (hcell k hlt).2.2.1
        have hk4 : wr.cell? ⟨b, o + k * 4 + 3, none⟩ = some (.int .i64 l[k].num) := by rw [HR.out.2.cell (p := ⟨b, _, none⟩) hb]; exact (hcell k hlt).2.2.2
        have HS : Hid (_ = E) := (wchkL_step l k hlt).symm.trans HR.out.1
        have HB := hide (HR.out.2.alloc hsz (.cells #[.int .i64 l[k].peer, .string l[k].token, .string l[k].topic, .int .i64 l[k].num] 30))
        have C := hide (fun W hW => wcheckOne_any l[k] W (HM.out.below hW))
        have CC : Hid (∀ W c, Below w.heap.size w W → Asks c l[k].peer l[k].token W → Calls Tryd.prog 25 #[.slice (some ⟨b, o, none⟩) k co, .func (.func 34) #[] #[.pointer (some ⟨c, 0, none⟩), .pointer (some ⟨c + 1, 0, none⟩)]] W fun e w' => e = .returned (.bool ((l.take k).any (isW l[k].peer l[k].token))) ∧ Below W.heap.size W w') := fun W c hW hA => by
          have hlen : (l.take k).length = k := by rw [List.length_take]; omega
          have := wcontains_any (l.take k) (some ⟨b, o, none⟩) co c l[k].peer l[k].token W ((wts_take HL.out k).below hW) (by omega) hA
          rwa [hlen] at this
        clear hcell HL HE HM
        generalize (l.take k).any (isW l[k].peer l[k].token) = B at *
        generalize hkk : l[k] = x at *
        clear hkk
        revert C
        revert HS
        generalize wchkO x = O
        intro HS C
        obtain ⟨p, t, n, v⟩ := x
        simp only [wtV] at hk1 hk2 hk3 hk4 HS HB C CC
        have d0 := wt_cells wr (.int .i64 p) (.string t) (.string n) (.int .i64 v)
        have hz : wr.heap.size < (wr.alloc (.cells #[.int .i64 p, .string t, .string n, .int .i64 v] 30)).heap.size := by simp
        go_wp2_with fail
        refine (C.out _ HB.out).mono ?_
        rintro e w1 ⟨rfl, hb1⟩
        have HB1 := hide (HB.out.trans (hb1.mono HB.out.size))
        have d1 : ∀ o, w1.cell? ⟨wr.heap.size, o, none⟩ = (#[.int .i64 p, .string t, .string n, .int .i64 v] : Array Value)[o]? := fun o => (hb1.cell (p := ⟨wr.heap.size, o, none⟩) hz).trans (d0 o)
        have hz1 : wr.heap.size < w1.heap.size := Nat.lt_of_lt_of_le hz hb1.size
        clear hb1 d0 hz HB C
        by_cases h1 : O = 0
        · have h1' : (O != 0) = false := by simp [h1]
          have HS1 : Hid (_ = E) := (if_neg (by simp [h1])).symm.trans HS.out
          clear HS h1
          have q0 : w1.cell? ⟨wr.heap.size, 0, none⟩ = some (.int .i64 p) := d1 0
          have q1 : w1.cell? ⟨wr.heap.size, 1, none⟩ = some (.string t) := d1 1
          have hkc : (k : Int) ≤ co := by omega
          have hk0 : (0 : Int) ≤ k := by omega
          have hkl : (k : Int) ≤ l.length := by omega
          have hw1 : wr.heap.size < w1.heap.size := hz1
          cases B with
          | true =>
            have HQ : Hid (E = 6) := by rw [← HS1.out, if_pos rfl]; exact rfl
            go_upto_region 9 with fail
            go_region_held3 (fun w' => w'.cell? ⟨wr.heap.size, 0, none⟩ = some (.int .i64 p) ∧ w'.cell? ⟨wr.heap.size, 1, none⟩ = some (.string t)) (first | (refine ⟨?_, ?_⟩ <;> assumption) | go_keep | fail)
              (first
                | (go_at_call 26; refine (CI.out _ _ _).mono ?_; rintro e wa ⟨rfl, hA, hba⟩; have HBA := hide ((HB1.out.drew).trans (hba.mono HB1.out.drew.size)); have HA := hide hA; have j0 : wa.cell? ⟨wr.heap.size, 0, none⟩ = some (.int .i64 p) := (hba.cell (p := ⟨wr.heap.size, 0, none⟩) hw1).trans q0; have j1 : wa.cell? ⟨wr.heap.size, 1, none⟩ = some (.string t) := (hba.cell (p := ⟨wr.heap.size, 1, none⟩) hw1).trans q1; have hja : wr.heap.size < wa.heap.size := Nat.lt_of_lt_of_le hw1 hba.size; clear hba hA)
                | (go_at_call 25; refine (CC.out _ _ HBA.out HA.out).mono ?_; rintro e wb ⟨rfl, hbb⟩; have HBB := hide (HBA.out.trans (hbb.mono HBA.out.size)); have i0 : wb.cell? ⟨wr.heap.size, 0, none⟩ = some (.int .i64 p) := (hbb.cell (p := ⟨wr.heap.size, 0, none⟩) hja).trans j0; have i1 : wb.cell? ⟨wr.heap.size, 1, none⟩ = some (.string t) := (hbb.cell (p := ⟨wr.heap.size, 1, none⟩) hja).trans j1; clear hbb)
                | fail)
            all_goals
              go_wp2
              go_ret
              exact ⟨by rw [HQ.out]; rfl, HBB.out⟩
          | false =>
            have HQ : Hid (wchkL (l.take (k + 1)) (l.drop (k + 1)) = E) := by have := HS1.out; rwa [if_neg (by simp)] at this
            go_upto_region 9 with fail
            go_region_held3 (fun w' => w'.cell? ⟨wr.heap.size, 0, none⟩ = some (.int .i64 p) ∧ w'.cell? ⟨wr.heap.size, 1, none⟩ = some (.string t)) (first | (refine ⟨?_, ?_⟩ <;> assumption) | go_keep | fail)
              (first
                | (go_at_call 26; refine (CI.out _ _ _).mono ?_; rintro e wa ⟨rfl, hA, hba⟩; have HBA := hide ((HB1.out.drew).trans (hba.mono HB1.out.drew.size)); have HA := hide hA; have j0 : wa.cell? ⟨wr.heap.size, 0, none⟩ = some (.int .i64 p) := (hba.cell (p := ⟨wr.heap.size, 0, none⟩) hw1).trans q0; have j1 : wa.cell? ⟨wr.heap.size, 1, none⟩ = some (.string t) := (hba.cell (p := ⟨wr.heap.size, 1, none⟩) hw1).trans q1; have hja : wr.heap.size < wa.heap.size := Nat.lt_of_lt_of_le hw1 hba.size; clear hba hA)
                | (go_at_call 25; refine (CC.out _ _ HBA.out HA.out).mono ?_; rintro e wb ⟨rfl, hbb⟩; have HBB := hide (HBA.out.trans (hbb.mono HBA.out.size)); have i0 : wb.cell? ⟨wr.heap.size, 0, none⟩ = some (.int .i64 p) := (hbb.cell (p := ⟨wr.heap.size, 0, none⟩) hja).trans j0; have i1 : wb.cell? ⟨wr.heap.size, 1, none⟩ = some (.string t) := (hbb.cell (p := ⟨wr.heap.size, 1, none⟩) hja).trans j1; clear hbb)
                | fail)
            all_goals
              go_wp2
              go_round
              case rel => exact ⟨k + 1, by omega, by go_num, HQ.out, HBB.out⟩
              case measure => simp [intOf]; omega
        · have h1' : (O != 0) = true := by simp [h1]
          have HQ : Hid (E = O) := by rw [← HS.out, if_pos h1]; exact rfl
          clear HS h1
          go_wp2
          go_ret
          exact ⟨by rw [HQ.out]; rfl, HB1.out⟩
      · have hke : l.drop k = [] := List.drop_eq_nil_of_le (by omega)
        have HQ : Hid (E = 0) := by have := HR.out.1; rw [hke, wchkL] at this; exact this.symm
        clear hke
        go_wp2
        go_ret
        exact ⟨by rw [HQ.out]; rfl, HR.out.2⟩
end Go.Proofs.YtbodjfmbdddieafDoor
