/-
  dragomanlaw.kept, dragomanref.SameKept (of what is the same), dragomanlaw.keepBegun: what they answer.
-/
import Derived.Test.YtcldjoklkbbbgadDoorKeepPut
import Derived.Deep.QuietTactic
import Derived.BigQuiet
namespace Go.Proofs.YtcldjoklkbbbgadDoor
open Go.RowKit Go.PlainAid

def K2 : List Kp := [⟨⟨#[97, 47, 98]⟩, ⟨#[49]⟩, 1⟩, ⟨⟨#[99]⟩, ⟨#[50]⟩, 7⟩]

theorem kept_any (w : World) : Calls Tryd.prog 32 #[] w fun e w' => e = .returned (.slice (some ⟨w.heap.size, 0, none⟩) 2 2) ∧ KpsIn w' (some ⟨w.heap.size, 0, none⟩) K2 ∧ Below w.heap.size w w' := by
  have HK : Hid (KpsIn (w.alloc (.cells #[.string ⟨#[97, 47, 98]⟩, .string ⟨#[49]⟩, .int .i64 1, .string ⟨#[99]⟩, .string ⟨#[50]⟩, .int .i64 7] 27)) (some ⟨w.heap.size, 0, none⟩) K2) := by
    refine .inr ⟨_, _, rfl, by simp, fun i hi => ?_⟩
    have e := Lib.cell_of_heap (Go.heap_alloc_new w (.cells #[.string ⟨#[97, 47, 98]⟩, .string ⟨#[49]⟩, .int .i64 1, .string ⟨#[99]⟩, .string ⟨#[50]⟩, .int .i64 7] 27))
    have : i = 0 ∨ i = 1 := by simp [K2] at hi; omega
    rcases this with rfl | rfl
    · exact ⟨e 0, e 1, e 2⟩
    · exact ⟨e 3, e 4, e 5⟩
  have HB := hide ((Below.refl w.heap.size w).alloc (Nat.le_refl _) (.cells #[.string ⟨#[97, 47, 98]⟩, .string ⟨#[49]⟩, .int .i64 1, .string ⟨#[99]⟩, .string ⟨#[50]⟩, .int .i64 7] 27))
  go_enter Tryd.func32, Tryd.ntmps32
  go_wp2
  go_ret
  exact ⟨rfl, HK.out, HB.out⟩

theorem kps_take {w : World} {ao : Option Addr} {l : List Kp} (h : KpsIn w ao l) (m : Nat) : KpsIn w ao (l.take m) := by
  rcases h with rfl | ⟨b, o, ha, hb, hc⟩
  · left; simp
  · exact .inr ⟨b, o, ha, hb, fun i hi => by
      have hi' : i < l.length := by simp at hi; omega
      simpa using hc i hi'⟩
theorem KPost.inn {w : World} {L : List Kp} {E : Int} {e : Ending} {w' : World} (h : KPost w L E e w') : ∃ aa ca, e = .returned (.tuple #[.slice aa L.length ca, .int .i64 E]) ∧ KpsIn w' aa L ∧ Below w.heap.size w w' := by
  obtain ⟨v, he, hown, hb⟩ := h
  obtain ⟨aa, ca, rfl⟩ := kown_form hown
  exact ⟨aa, ca, he, own_kps hown rfl, hb⟩

theorem kbelow_drewN {N : Nat} {w w' : World} (h : Below N w w') (n : Nat) : Below N w (w'.drewN n) := ⟨h.os, h.tape, h.output, h.size, h.block⟩

set_option maxHeartbeats 2000000 in
theorem sameKept_yes (l : List Kp) (ap ao : Option Addr) (cp co : Nat) (w : World) (hp : KpsIn w ap l) (hl : KpsIn w ao l) (hn : l.length ≤ 1152921504606846976) :
    Calls Tryd.prog 33 #[.slice ap l.length cp, .slice ao l.length co] w fun e w' => e = .returned (.bool true) ∧ Below w.heap.size w w' := by
  have HP := hide hp
  have HL := hide hl
  clear hp hl
  go_enter Tryd.func33, Tryd.ntmps33
  go_wp2
  go_loopw [5] (fun i wr => ∃ k : Nat, k ≤ l.length ∧ i = .int .i64 k ∧ Hid (Below w.heap.size w wr)) (fun i _ => l.length - (intOf i).toNat)
  case atStart => exact ⟨0, by omega, rfl, Below.refl _ _⟩
  case round =>
    obtain ⟨k, hk, rfl, HR⟩ := hrel
    by_cases hlt : k < l.length
    · obtain ⟨b, o, rfl, hb, hcell⟩ := kps_here HL.out hlt
      obtain ⟨b', o', rfl, hb', hcell'⟩ := kps_here HP.out hlt
      have hk1 : wr.cell? ⟨b, o + k * 3, none⟩ = some (.string l[k].topic) := by rw [HR.out.cell (p := ⟨b, _, none⟩) hb]; exact (hcell k hlt).1
      have hk2 : wr.cell? ⟨b, o + k * 3 + 1, none⟩ = some (.string l[k].payload) := by rw [HR.out.cell (p := ⟨b, _, none⟩) hb]; exact (hcell k hlt).2.1
      have hk3 : wr.cell? ⟨b, o + k * 3 + 2, none⟩ = some (.int .i64 l[k].ver) := by rw [HR.out.cell (p := ⟨b, _, none⟩) hb]; exact (hcell k hlt).2.2
      have hj1 : wr.cell? ⟨b', o' + k * 3, none⟩ = some (.string l[k].topic) := by rw [HR.out.cell (p := ⟨b', _, none⟩) hb']; exact (hcell' k hlt).1
      have hj2 : wr.cell? ⟨b', o' + k * 3 + 1, none⟩ = some (.string l[k].payload) := by rw [HR.out.cell (p := ⟨b', _, none⟩) hb']; exact (hcell' k hlt).2.1
      have hj3 : wr.cell? ⟨b', o' + k * 3 + 2, none⟩ = some (.int .i64 l[k].ver) := by rw [HR.out.cell (p := ⟨b', _, none⟩) hb']; exact (hcell' k hlt).2.2
      clear hcell hcell' HL HP
      generalize l[k].topic = t at *
      generalize l[k].payload = p at *
      generalize l[k].ver = v at *
      go_wp2_with fail
      go_big_quiet (fail)
      go_wp2
      go_round
      case rel => exact ⟨k + 1, by omega, by go_num, kbelow_drewN HR.out _⟩
      case measure => simp [intOf]; omega
    · go_wp2
      go_ret
      exact ⟨rfl, HR.out⟩

def A1 : List Kp := [⟨⟨#[97, 47, 98]⟩, ⟨#[49]⟩, 1⟩, ⟨⟨#[99]⟩, ⟨#[51]⟩, 8⟩]
theorem k_check : chkK K2 = 0 := by decide +kernel
theorem k_put1 : putE K2 ⟨#[99]⟩ ⟨#[51]⟩ = 0 ∧ putA K2 ⟨#[99]⟩ ⟨#[51]⟩ = A1 := by decide +kernel
theorem k_put2 : putE K2 ⟨#[97, 47, 98]⟩ ⟨#[]⟩ = 0 ∧ putA K2 ⟨#[97, 47, 98]⟩ ⟨#[]⟩ = [⟨⟨#[99]⟩, ⟨#[50]⟩, 7⟩] := by decide +kernel
theorem k_get : getE A1 ⟨#[99]⟩ = 0 ∧ getK A1 ⟨#[99]⟩ = ⟨⟨#[99]⟩, ⟨#[51]⟩, 8⟩ := by decide +kernel
theorem k_list : listE K2 ⟨#[43, 47, 98]⟩ = 0 ∧ listA K2 ⟨#[43, 47, 98]⟩ = K2.take 1 := by decide +kernel

set_option maxHeartbeats 4000000 in
set_option maxRecDepth 100000 in
theorem keepBegun_yes (w : World) (hm : Max w) : Calls Tryd.prog 13 #[] w fun e w' => e = .returned (.bool true) ∧ Below w.heap.size w w' := by
  have CP1 : Hid (∀ W b, Below w.heap.size w W → KpsIn W (some ⟨b, 0, none⟩) K2 → Calls Tryd.prog 5 #[.slice (some ⟨b, 0, none⟩) 2 2, .string ⟨#[99]⟩, .string ⟨#[51]⟩] W (KPost W A1 0)) := fun W b h hk => by
    have := kput_any K2 ⟨#[99]⟩ ⟨#[51]⟩ (some ⟨b, 0, none⟩) 2 W hk (hm.below h)
    rwa [k_put1.1, k_put1.2] at this
  have CP2 : Hid (∀ W b, Below w.heap.size w W → KpsIn W (some ⟨b, 0, none⟩) K2 → Calls Tryd.prog 5 #[.slice (some ⟨b, 0, none⟩) 2 2, .string ⟨#[97, 47, 98]⟩, .string ⟨#[]⟩] W (KPost W [⟨⟨#[99]⟩, ⟨#[50]⟩, 7⟩] 0)) := fun W b h hk => by
    have := kput_any K2 ⟨#[97, 47, 98]⟩ ⟨#[]⟩ (some ⟨b, 0, none⟩) 2 W hk (hm.below h)
    rwa [k_put2.1, k_put2.2] at this
  have CG : Hid (∀ W ao co, Below w.heap.size w W → KpsIn W ao A1 → Calls Tryd.prog 6 #[.slice ao 2 co, .string ⟨#[99]⟩] W fun e w' => e = .returned (.tuple #[.agg #[.string ⟨#[99]⟩, .string ⟨#[51]⟩, .int .i64 8], .int .i64 0]) ∧ Below W.heap.size W w') := fun W ao co h hk => by
    have := kget_any A1 ⟨#[99]⟩ ao co W hk (hm.below h)
    rwa [k_get.1, k_get.2] at this
  have CL : Hid (∀ W b, Below w.heap.size w W → KpsIn W (some ⟨b, 0, none⟩) K2 → Calls Tryd.prog 7 #[.slice (some ⟨b, 0, none⟩) 2 2, .string ⟨#[43, 47, 98]⟩] W (KPost W (K2.take 1) 0)) := fun W b h hk => by
    have := klist_any K2 ⟨#[43, 47, 98]⟩ (some ⟨b, 0, none⟩) 2 W hk (hm.below h)
    rwa [k_list.1, k_list.2] at this
  have CC : Hid (∀ W b, Below w.heap.size w W → KpsIn W (some ⟨b, 0, none⟩) K2 → Calls Tryd.prog 14 #[.slice (some ⟨b, 0, none⟩) 2 2] W fun e w' => e = .returned (.int .i64 0) ∧ Below W.heap.size W w') := fun W b h hk => by
    have := kcheck_any K2 (some ⟨b, 0, none⟩) 2 W hk (hm.below h)
    rwa [k_check] at this
  have CS : Hid (∀ W ap ao cp co, KpsIn W ap (K2.take 1) → KpsIn W ao (K2.take 1) → Calls Tryd.prog 33 #[.slice ap 1 cp, .slice ao 1 co] W fun e w' => e = .returned (.bool true) ∧ Below W.heap.size W w') := fun W ap ao cp co h1 h2 => sameKept_yes (K2.take 1) ap ao cp co W h1 h2 (by decide)
  clear hm
  go_enter Tryd.func13, Tryd.ntmps13
  go_wp2_with fail
  refine (kept_any _).mono ?_
  rintro e w1 ⟨rfl, hk1, hb1⟩
  have HB1 := hide hb1
  have HK1 := hide hk1
  clear hk1 hb1
  go_wp2_with fail
  refine (CP1.out _ _ HB1.out HK1.out).mono ?_
  intro e w2 h2
  obtain ⟨a1, c1, rfl, hk2, hb2⟩ := KPost.inn h2
  have HB2 := hide (below_step HB1.out hb2)
  have HK2 := hide hk2
  clear hk2 hb2 h2 HK1 HB1
  go_wp2_with fail
  refine (kept_any _).mono ?_
  rintro e w3 ⟨rfl, hk3, hb3⟩
  have HB3 := hide (below_step HB2.out hb3)
  have HK2 := hide (HK2.out.below hb3)
  have HK3 := hide hk3
  clear hk3 hb3 HB2
  go_wp2_with fail
  refine (CP2.out _ _ HB3.out HK3.out).mono ?_
  intro e w4 h4
  obtain ⟨a3, c3, rfl, hk4, hb4⟩ := KPost.inn h4
  have HB4 := hide (below_step HB3.out hb4)
  have HK2 := hide (HK2.out.below hb4)
  clear hk4 hb4 h4 HK3 HB3
  go_wp2_with fail
  refine (CG.out _ _ _ HB4.out HK2.out).mono ?_
  rintro e w5 ⟨rfl, hb5⟩
  have HB5 := hide (below_step HB4.out hb5)
  have HB5a := hide (HB5.out.alloc HB5.out.size (.cells #[.string ⟨#[99]⟩, .string ⟨#[51]⟩, .int .i64 8] 27))
  have d5 := kp_cells w5 (.string ⟨#[99]⟩) (.string ⟨#[51]⟩) (.int .i64 8)
  have z5 : w5.heap.size < (w5.alloc (.cells #[.string ⟨#[99]⟩, .string ⟨#[51]⟩, .int .i64 8] 27)).heap.size := by simp
  clear hb5 HK2 HB4 HB5
  go_wp2_with fail
  refine (kept_any _).mono ?_
  rintro e w6 ⟨rfl, hk6, hb6⟩
  have HB6 := hide (below_step HB5a.out hb6)
  have HK6 := hide hk6
  have d6 : ∀ o, w6.cell? ⟨w5.heap.size, o, none⟩ = (#[.string ⟨#[99]⟩, .string ⟨#[51]⟩, .int .i64 8] : Array Value)[o]? := fun o => (hb6.cell (p := ⟨w5.heap.size, o, none⟩) z5).trans (d5 o)
  have z6 : w5.heap.size < w6.heap.size := Nat.lt_of_lt_of_le z5 hb6.size
  clear hk6 hb6 d5 z5 HB5a
  go_wp2_with fail
  refine (CL.out _ _ HB6.out (by simpa using HK6.out)).mono ?_
  intro e w7 h7
  obtain ⟨a7, c7, rfl, hk7, hb7⟩ := KPost.inn h7
  have HB7 := hide (below_step HB6.out hb7)
  have HK7 := hide hk7
  have d7 : ∀ o, w7.cell? ⟨w5.heap.size, o, none⟩ = (#[.string ⟨#[99]⟩, .string ⟨#[51]⟩, .int .i64 8] : Array Value)[o]? := fun o => (hb7.cell (p := ⟨w5.heap.size, o, none⟩) z6).trans (d6 o)
  have z7 : w5.heap.size < w7.heap.size := Nat.lt_of_lt_of_le z6 hb7.size
  clear hk7 hb7 d6 z6 HB6 h7 HK6
  go_wp2_with fail
  refine (kept_any _).mono ?_
  rintro e w8 ⟨rfl, hk8, hb8⟩
  have HB8 := hide (below_step HB7.out hb8)
  have HK7 := hide (HK7.out.below hb8)
  have HK8 := hide hk8
  have d8 : ∀ o, w8.cell? ⟨w5.heap.size, o, none⟩ = (#[.string ⟨#[99]⟩, .string ⟨#[51]⟩, .int .i64 8] : Array Value)[o]? := fun o => (hb8.cell (p := ⟨w5.heap.size, o, none⟩) z7).trans (d7 o)
  have z8 : w5.heap.size < w8.heap.size := Nat.lt_of_lt_of_le z7 hb8.size
  clear hk8 hb8 d7 z7 HB7
  go_wp2_with fail
  refine (CC.out _ _ HB8.out HK8.out).mono ?_
  rintro e w9 ⟨rfl, hb9⟩
  have HB9 := hide (below_step HB8.out hb9)
  have HK7 := hide (HK7.out.below hb9)
  have d9 : ∀ o, w9.cell? ⟨w5.heap.size, o, none⟩ = (#[.string ⟨#[99]⟩, .string ⟨#[51]⟩, .int .i64 8] : Array Value)[o]? := fun o => (hb9.cell (p := ⟨w5.heap.size, o, none⟩) z8).trans (d8 o)
  clear hb9 d8 z8 HB8 HK8
  go_wp2_with fail
  refine (kept_any _).mono ?_
  rintro e wa ⟨rfl, hka, hba⟩
  have HBa := hide (below_step HB9.out hba)
  have HK7 := hide (HK7.out.below hba)
  have HKa := hide (kps_take hka 1)
  clear hka hba d9 HB9
  go_wp2_with fail
  refine (CS.out _ _ _ _ _ HK7.out HKa.out).mono ?_
  rintro e wb ⟨rfl, hbb⟩
  have HBb := hide (below_step HBa.out hbb)
  clear hbb HBa HK7 HKa
  go_wp2
  go_ret
  exact ⟨rfl, HBb.out⟩
end Go.Proofs.YtcldjoklkbbbgadDoor
