/-
  dragomanlaw.watches, dragomanref.SameWatches (of what is the same), dragomanlaw.watchBegun: what they answer.
-/
import Derived.Test.YtbodjfmbdddieaeDoorWatchTell
import Derived.Deep.QuietTactic
import Derived.BigQuiet
namespace Go.Proofs.YtbodjfmbdddieaeDoor
open Go.RowKit Go.PlainAid

def W2 : List Wt := [⟨1, ⟨#[116]⟩, ⟨#[97, 47, 98]⟩, 16777215⟩, ⟨2, ⟨#[116]⟩, ⟨#[99]⟩, 5⟩]

theorem watches_any (w : World) : Calls Tryd.prog 87 #[] w fun e w' => e = .returned (.slice (some ⟨w.heap.size, 0, none⟩) 2 2) ∧ WtsIn w' (some ⟨w.heap.size, 0, none⟩) W2 ∧ Below w.heap.size w w' := by
  have HK : Hid (WtsIn (w.alloc (.cells #[.int .i64 1, .string ⟨#[116]⟩, .string ⟨#[97, 47, 98]⟩, .int .i64 16777215, .int .i64 2, .string ⟨#[116]⟩, .string ⟨#[99]⟩, .int .i64 5] 109)) (some ⟨w.heap.size, 0, none⟩) W2) := by
    refine .inr ⟨_, _, rfl, by simp, fun i hi => ?_⟩
    have e := Lib.cell_of_heap (Go.heap_alloc_new w (.cells #[.int .i64 1, .string ⟨#[116]⟩, .string ⟨#[97, 47, 98]⟩, .int .i64 16777215, .int .i64 2, .string ⟨#[116]⟩, .string ⟨#[99]⟩, .int .i64 5] 109))
    have : i = 0 ∨ i = 1 := by simp [W2] at hi; omega
    rcases this with rfl | rfl
    · exact ⟨e 0, e 1, e 2, e 3⟩
    · exact ⟨e 4, e 5, e 6, e 7⟩
  have HB := hide ((Below.refl w.heap.size w).alloc (Nat.le_refl _) (.cells #[.int .i64 1, .string ⟨#[116]⟩, .string ⟨#[97, 47, 98]⟩, .int .i64 16777215, .int .i64 2, .string ⟨#[116]⟩, .string ⟨#[99]⟩, .int .i64 5] 109))
  go_enter Tryd.func87, Tryd.ntmps87
  go_wp2
  go_ret
  exact ⟨rfl, HK.out, HB.out⟩

set_option maxHeartbeats 2000000 in
theorem sameWatches_yes (l : List Wt) (ap ao : Option Addr) (cp co : Nat) (w : World) (hp : WtsIn w ap l) (hl : WtsIn w ao l) (hn : l.length ≤ 1152921504606846976) :
    Calls Tryd.prog 89 #[.slice ap l.length cp, .slice ao l.length co] w fun e w' => e = .returned (.bool true) ∧ Below w.heap.size w w' := by
  have HP := hide hp
  have HL := hide hl
  clear hp hl
  go_enter Tryd.func89, Tryd.ntmps89
  go_wp2
  go_loopw [5] (fun i wr => ∃ k : Nat, k ≤ l.length ∧ i = .int .i64 k ∧ Hid (Below w.heap.size w wr)) (fun i _ => l.length - (intOf i).toNat)
  case atStart => exact ⟨0, by omega, rfl, Below.refl _ _⟩
  case round =>
    obtain ⟨k, hk, rfl, HR⟩ := hrel
    by_cases hlt : k < l.length
    · obtain ⟨b, o, rfl, hb, hcell⟩ := wts_here HL.out hlt
      obtain ⟨b', o', rfl, hb', hcell'⟩ := wts_here HP.out hlt
      have hk1 : wr.cell? ⟨b, o + k * 4, none⟩ = some (.int .i64 l[k].peer) := by rw [HR.out.cell (p := ⟨b, _, none⟩) hb]; exact (hcell k hlt).1
      have hk2 : wr.cell? ⟨b, o + k * 4 + 1, none⟩ = some (.string l[k].token) := by rw [HR.out.cell (p := ⟨b, _, none⟩) hb]; exact (hcell k hlt).2.1
      have hk3 : wr.cell? ⟨b, o + k * 4 + 2, none⟩ = some (.string l[k].topic) := by rw [HR.out.cell (p := ⟨b, _, none⟩) hb]; exact (hcell k hlt).2.2.1
      have hk4 : wr.cell? ⟨b, o + k * 4 + 3, none⟩ = some (.int .i64 l[k].num) := by rw [HR.out.cell (p := ⟨b, _, none⟩) hb]; exact (hcell k hlt).2.2.2
      have hj1 : wr.cell? ⟨b', o' + k * 4, none⟩ = some (.int .i64 l[k].peer) := by rw [HR.out.cell (p := ⟨b', _, none⟩) hb']; exact (hcell' k hlt).1
      have hj2 : wr.cell? ⟨b', o' + k * 4 + 1, none⟩ = some (.string l[k].token) := by rw [HR.out.cell (p := ⟨b', _, none⟩) hb']; exact (hcell' k hlt).2.1
      have hj3 : wr.cell? ⟨b', o' + k * 4 + 2, none⟩ = some (.string l[k].topic) := by rw [HR.out.cell (p := ⟨b', _, none⟩) hb']; exact (hcell' k hlt).2.2.1
      have hj4 : wr.cell? ⟨b', o' + k * 4 + 3, none⟩ = some (.int .i64 l[k].num) := by rw [HR.out.cell (p := ⟨b', _, none⟩) hb']; exact (hcell' k hlt).2.2.2
      clear hcell hcell' HL HP
      generalize l[k].topic = t at *
      generalize l[k].token = q at *
      generalize l[k].peer = p at *
      generalize l[k].num = v at *
      go_wp2_with fail
      go_big_quiet (fail)
      go_wp2
      go_round
      case rel => exact ⟨k + 1, by omega, by go_num, kbelow_drewN HR.out _⟩
      case measure => simp [intOf]; omega
    · go_wp2
      go_ret
      exact ⟨rfl, HR.out⟩

def WA1 : List Wt := [⟨2, ⟨#[116]⟩, ⟨#[99]⟩, 5⟩, ⟨1, ⟨#[116]⟩, ⟨#[99]⟩, 1⟩]
def WC1 : List Wt := [⟨1, ⟨#[116]⟩, ⟨#[97, 47, 98]⟩, 16777215⟩]
def WT1 : List Wt := [⟨1, ⟨#[116]⟩, ⟨#[97, 47, 98]⟩, 0⟩, ⟨2, ⟨#[116]⟩, ⟨#[99]⟩, 5⟩]
def WT2 : List Wt := [⟨1, ⟨#[116]⟩, ⟨#[97, 47, 98]⟩, 0⟩]
theorem w_check : wchkK W2 = 0 := by decide +kernel
theorem w_add : addE W2 1 ⟨#[116]⟩ ⟨#[99]⟩ = 0 ∧ addA W2 1 ⟨#[116]⟩ ⟨#[99]⟩ = WA1 := by decide +kernel
theorem w_can : canE W2 2 ⟨#[116]⟩ = 0 ∧ canA W2 2 ⟨#[116]⟩ = WC1 := by decide +kernel
theorem w_tel : telE W2 ⟨#[97, 47, 98]⟩ = 0 ∧ telA W2 ⟨#[97, 47, 98]⟩ = WT1 ∧ telB W2 ⟨#[97, 47, 98]⟩ = WT2 := by decide +kernel
theorem w_fre : freE 16777215 0 = 0 ∧ freB 16777215 0 = true ∧ freE 5 5 = 0 ∧ freB 5 5 = false := by decide +kernel

set_option maxHeartbeats 4000000 in
set_option maxRecDepth 100000 in
theorem watchBegun_yes (w : World) (hm : Max w) : Calls Tryd.prog 35 #[] w fun e w' => e = .returned (.bool true) ∧ Below w.heap.size w w' := by
  have CA : Hid (∀ W b, Below w.heap.size w W → WtsIn W (some ⟨b, 0, none⟩) W2 → Calls Tryd.prog 26 #[.slice (some ⟨b, 0, none⟩) 2 2, .int .i64 1, .string ⟨#[116]⟩, .string ⟨#[99]⟩] W (WPost W WA1 0)) := fun W b h hk => by
    have := wadd_any W2 1 ⟨#[116]⟩ ⟨#[99]⟩ (some ⟨b, 0, none⟩) 2 W hk (by decide) (hm.below h)
    rwa [w_add.1, w_add.2] at this
  have CC : Hid (∀ W b, Below w.heap.size w W → WtsIn W (some ⟨b, 0, none⟩) W2 → Calls Tryd.prog 27 #[.slice (some ⟨b, 0, none⟩) 2 2, .int .i64 2, .string ⟨#[116]⟩] W (WPost W WC1 0)) := fun W b h hk => by
    have := wcancel_any W2 2 ⟨#[116]⟩ (some ⟨b, 0, none⟩) 2 W hk (by decide) (hm.below h)
    rwa [w_can.1, w_can.2] at this
  have CT : Hid (∀ W b, Below w.heap.size w W → WtsIn W (some ⟨b, 0, none⟩) W2 → Calls Tryd.prog 28 #[.slice (some ⟨b, 0, none⟩) 2 2, .string ⟨#[97, 47, 98]⟩] W (TPost W WT1 WT2 0)) := fun W b h hk => by
    have := wtell_any W2 ⟨#[97, 47, 98]⟩ (some ⟨b, 0, none⟩) 2 W hk (by decide) (hm.below h)
    rwa [w_tel.1, w_tel.2.1, w_tel.2.2] at this
  have CF1 : Hid (∀ W, Calls Tryd.prog 29 #[.int .i64 16777215, .int .i64 0] W fun e w' => e = .returned (.tuple #[.bool true, .int .i64 0]) ∧ Below W.heap.size W w') := fun W => by
    have := fresh_any 16777215 0 W
    rwa [w_fre.1, w_fre.2.1] at this
  have CF2 : Hid (∀ W, Calls Tryd.prog 29 #[.int .i64 5, .int .i64 5] W fun e w' => e = .returned (.tuple #[.bool false, .int .i64 0]) ∧ Below W.heap.size W w') := fun W => by
    have := fresh_any 5 5 W
    rwa [w_fre.2.2.1, w_fre.2.2.2] at this
  have CK : Hid (∀ W b, Below w.heap.size w W → WtsIn W (some ⟨b, 0, none⟩) W2 → Calls Tryd.prog 36 #[.slice (some ⟨b, 0, none⟩) 2 2] W fun e w' => e = .returned (.int .i64 0) ∧ Below W.heap.size W w') := fun W b h hk => by
    have := wcheck_any W2 (some ⟨b, 0, none⟩) 2 W hk (by decide) (hm.below h)
    rwa [w_check] at this
  clear hm
  go_enter Tryd.func35, Tryd.ntmps35
  go_wp2_with fail
  refine (watches_any _).mono ?_
  rintro e w1 ⟨rfl, hk1, hb1⟩
  have HB1 := hide hb1
  have HK1 := hide hk1
  clear hk1 hb1
  go_wp2_with fail
  refine (CA.out _ _ HB1.out HK1.out).mono ?_
  intro e w2 h2
  obtain ⟨a2, c2, rfl, hk2, _, hb2⟩ := h2.inn
  have HB2 := hide (below_step HB1.out hb2)
  have HK2 := hide hk2
  clear hk2 hb2 h2 HK1 HB1
  go_wp2_with fail
  refine (watches_any _).mono ?_
  rintro e w3 ⟨rfl, hk3, hb3⟩
  have HB3 := hide (below_step HB2.out hb3)
  have HK2 := hide (HK2.out.below hb3)
  have HK3 := hide hk3
  clear hk3 hb3 HB2
  go_wp2_with fail
  refine (CC.out _ _ HB3.out HK3.out).mono ?_
  intro e w4 h4
  obtain ⟨a4, c4, rfl, hk4, _, hb4⟩ := h4.inn
  have HB4 := hide (below_step HB3.out hb4)
  have HK2 := hide (HK2.out.below hb4)
  clear hk4 hb4 h4 HK3 HB3
  go_wp2_with fail
  refine (watches_any _).mono ?_
  rintro e w5 ⟨rfl, hk5, hb5⟩
  have HB5 := hide (below_step HB4.out hb5)
  have HK2 := hide (HK2.out.below hb5)
  have HK5 := hide hk5
  clear hk5 hb5 HB4
  go_wp2_with fail
  refine (CT.out _ _ HB5.out HK5.out).mono ?_
  intro e w6 h6
  obtain ⟨a6, c6, a6', c6', rfl, hk6, _, _, _, hb6⟩ := h6.inn
  have HB6 := hide (below_step HB5.out hb6)
  have HK2 := hide (HK2.out.below hb6)
  have HK6 := hide hk6
  clear hk6 hb6 h6 HK5 HB5
  go_wp2_with fail
  refine (CF1.out _).mono ?_
  rintro e w7 ⟨rfl, hb7⟩
  have HB7 := hide (below_step HB6.out hb7)
  have HK2 := hide (HK2.out.below hb7)
  have HK6 := hide (HK6.out.below hb7)
  clear hb7 HB6
  go_wp2_with fail
  refine (CF2.out _).mono ?_
  rintro e w8 ⟨rfl, hb8⟩
  have HB8 := hide (below_step HB7.out hb8)
  have HK2 := hide (HK2.out.below hb8)
  have HK6 := hide (HK6.out.below hb8)
  clear hb8 HB7
  go_wp2_with fail
  refine (watches_any _).mono ?_
  rintro e w9 ⟨rfl, hk9, hb9⟩
  have HB9 := hide (below_step HB8.out hb9)
  have HK2 := hide (HK2.out.below hb9)
  have HK6 := hide (HK6.out.below hb9)
  have HK9 := hide hk9
  clear hk9 hb9 HB8
  go_wp2_with fail
  refine (CK.out _ _ HB9.out HK9.out).mono ?_
  rintro e wa ⟨rfl, hba⟩
  have HBa := hide (below_step HB9.out hba)
  obtain ⟨b2, o2, rfl, _, hc2⟩ := wts_here (HK2.out.below hba) (k := 1) (by decide)
  obtain ⟨b6, o6, rfl, _, hc6⟩ := wts_here (HK6.out.below hba) (k := 0) (by decide)
  have q2 : wa.cell? ⟨b2, o2 + 4 + 2, none⟩ = some (.string ⟨#[99]⟩) := (hc2 1 (by decide)).2.2.1
  have q6 : wa.cell? ⟨b6, o6 + 3, none⟩ = some (.int .i64 0) := by
    have this : wa.cell? ⟨b6, o6 + 0 * 4 + 3, none⟩ = some (.int .i64 0) := (hc6 0 (by decide)).2.2.2
    simpa only [Nat.zero_mul, Nat.add_zero] using this
  have e1 : WA1.length = 2 := rfl
  have e2 : WC1.length = 1 := rfl
  have e3 : WT1.length = 2 := rfl
  have e4 : WT2.length = 1 := rfl
  rw [e1, e2, e3, e4]
  clear hba HB9 HK9 HK2 HK6 hc2 hc6
  go_wp2
  go_ret
  exact ⟨rfl, HBa.out⟩
end Go.Proofs.YtbodjfmbdddieaeDoor
