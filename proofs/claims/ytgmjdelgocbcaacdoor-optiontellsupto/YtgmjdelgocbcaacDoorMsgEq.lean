/-
  dragomanref.SameMessage of a message and itself: true, wherever its options lie; dragomanlaw.get.
-/
import Derived.Test.YtgmjdelgocbcaacDoorMsgCheck
import Derived.Deep.QuietTactic
import Derived.BigQuiet
import Derived.Deep.RegionWith
import Derived.Deep.DeepCutAuto
namespace Go.Proofs.YtgmjdelgocbcaacDoor
open Go.RowKit Go.PlainAid

set_option maxHeartbeats 8000000 in
set_option maxRecDepth 100000 in
theorem msame_yes (m : Mg) (ao ab : Option Addr) (co cb : Nat) (w : World) (h1 : OptsIn w ao m.opts) (h2 : OptsIn w ab m.opts) (hl : m.opts.length ≤ 13) :
    Calls Tryd.prog 8 #[mgV m ao co, mgV m ab cb] w fun e w' => e = .returned (.bool true) ∧ Below w.heap.size w w' := by
  have H1 := hide h1
  have H2 := hide h2
  clear h1 h2
  obtain ⟨k, c, i, t, l, p⟩ := m
  simp only [mgV]
  simp only at hl
  have hB : Below w.heap.size w ((w.alloc (.cells #[.int .i64 k, .int .i64 c, .int .i64 i, .string t, .slice ao l.length co, .string p] 24)).alloc (.cells #[.int .i64 k, .int .i64 c, .int .i64 i, .string t, .slice ab l.length cb, .string p] 24)) := ((Below.refl _ _).alloc (Nat.le_refl _) _).alloc (by simp) _
  have c1 : ∀ o, ((w.alloc (.cells #[.int .i64 k, .int .i64 c, .int .i64 i, .string t, .slice ao l.length co, .string p] 24)).alloc (.cells #[.int .i64 k, .int .i64 c, .int .i64 i, .string t, .slice ab l.length cb, .string p] 24)).cell? ⟨w.heap.size, o, none⟩ = (#[.int .i64 k, .int .i64 c, .int .i64 i, .string t, .slice ao l.length co, .string p] : Array Value)[o]? := fun o => by
    rw [World.cell?_alloc_old _ _ _ (by simp)]
    exact Lib.cell_of_heap (Go.heap_alloc_new w _) o
  have c2 : ∀ o, ((w.alloc (.cells #[.int .i64 k, .int .i64 c, .int .i64 i, .string t, .slice ao l.length co, .string p] 24)).alloc (.cells #[.int .i64 k, .int .i64 c, .int .i64 i, .string t, .slice ab l.length cb, .string p] 24)).cell? ⟨w.heap.size + 1, o, none⟩ = (#[.int .i64 k, .int .i64 c, .int .i64 i, .string t, .slice ab l.length cb, .string p] : Array Value)[o]? := fun o => by
    have h0 := Go.heap_alloc_new (w.alloc (.cells #[.int .i64 k, .int .i64 c, .int .i64 i, .string t, .slice ao l.length co, .string p] 24)) (.cells #[.int .i64 k, .int .i64 c, .int .i64 i, .string t, .slice ab l.length cb, .string p] 24)
    simp only [World.size_alloc] at h0
    exact Lib.cell_of_heap h0 o
  go_enter Tryd.func8, Tryd.ntmps8
  go_upto_region 4 with fail
  revert hB c1 c2
  generalize (w.alloc (.cells #[.int .i64 k, .int .i64 c, .int .i64 i, .string t, .slice ao l.length co, .string p] 24)).alloc (.cells #[.int .i64 k, .int .i64 c, .int .i64 i, .string t, .slice ab l.length cb, .string p] 24) = W2
  intro hB c1 c2
  have HB := hide hB
  have HA1 := hide (H1.out.below hB)
  have HA2 := hide (H2.out.below hB)
  clear hB H1 H2
  go_loopw [5] (fun x wr => ∃ n m : Nat, n ≤ l.length ∧ x = .int .i64 n ∧ wr = W2.drewN m) (fun x _ => l.length - (intOf x).toNat)
  case atStart => exact ⟨0, 0, by omega, rfl, rfl⟩
  case round =>
    obtain ⟨n, m, hn, rfl, rfl⟩ := hrel
    by_cases hlt : n < l.length
    · obtain ⟨b1, o1, rfl, y1⟩ : ∃ b o, ao = some ⟨b, o, none⟩ ∧ W2.cell? ⟨b, o + n * 2, none⟩ = some (.int .i64 l[n].1) ∧ W2.cell? ⟨b, o + n * 2 + 1, none⟩ = some (.string l[n].2) := by
        rcases HA1.out with h0 | ⟨b, o, g0, _, g1⟩
        · exact absurd hlt (by rw [h0]; simp)
        · exact ⟨b, o, g0, g1 n hlt⟩
      obtain ⟨b2, o2, rfl, y2⟩ : ∃ b o, ab = some ⟨b, o, none⟩ ∧ W2.cell? ⟨b, o + n * 2, none⟩ = some (.int .i64 l[n].1) ∧ W2.cell? ⟨b, o + n * 2 + 1, none⟩ = some (.string l[n].2) := by
        rcases HA2.out with h0 | ⟨b, o, g0, _, g1⟩
        · exact absurd hlt (by rw [h0]; simp)
        · exact ⟨b, o, g0, g1 n hlt⟩
      have hlt' : (n : Int) < l.length := by omega
      generalize l[n] = x at *
      obtain ⟨f, y⟩ := x
      simp only at y1 y2
      obtain ⟨y1, y1'⟩ := y1
      obtain ⟨y2, y2'⟩ := y2
      go_wp2_with fail
      go_quiet (fail)
      go_wp2
      go_round
      case rel => exact ⟨n + 1, _, by omega, by go_num, by first | rfl | (simp; rfl)⟩
      case measure => simp [intOf]; omega
    · have hge : (l.length : Int) ≤ n := by omega
      clear hlt hn
      go_wp2
      go_ret
      exact ⟨rfl, HB.out.trans (by have := (Below.refl w.heap.size W2); exact ⟨this.os, this.tape, this.output, this.size, this.block⟩)⟩

/-- a message that asks for a topic -/
def getMg : Mg := ⟨0, 1, 258, ⟨#[116]⟩, [(6, ⟨#[]⟩), (11, ⟨#[97]⟩), (11, ⟨#[98]⟩)], ⟨#[]⟩⟩
theorem get_v (ao : Option Addr) (co : Nat) : mgV getMg ao co = .agg #[.int .i64 0, .int .i64 1, .int .i64 258, .string ⟨#[116]⟩, .slice ao 3 co, .string ⟨#[]⟩] := rfl
theorem get_chk : chkM getMg = 0 := by decide +kernel
def GetPost (w : World) (e : Ending) (w' : World) : Prop := ∃ ao co, e = .returned (mgV getMg ao co) ∧ OptsIn w' ao getMg.opts ∧ Below w.heap.size w w'

set_option maxHeartbeats 2000000 in
theorem get_any' (w : World) : Calls Tryd.prog 26 #[] w (GetPost w) := by
  go_enter Tryd.func26, Tryd.ntmps26
  go_wp2
  refine bodyPost_ret (v := mgV getMg (some ⟨w.heap.size + 1, 0, none⟩) 3) (by simp [results, Tryd.results26, go_sem, mgV, getMg]) rfl ⟨_, 3, rfl, .inr ⟨w.heap.size + 1, 0, rfl, by simp, fun i hi => ?_⟩, ((Below.refl _ _).alloc (Nat.le_refl _) _).alloc (by simp) _⟩
  have hi' : i < 3 := hi
  have h3 : i = 0 ∨ i = 1 ∨ i = 2 := by omega
  rcases h3 with rfl | rfl | rfl <;> simp [getMg]

theorem get_check (w : World) (ao : Option Addr) (co : Nat) (h : OptsIn w ao getMg.opts) : Calls Tryd.prog 27 #[mgV getMg ao co] w fun e w' => e = .returned (.int .i64 0) ∧ Below w.heap.size w w' := by
  have := mcheck_any getMg ao co w h
  rwa [get_chk] at this
theorem get_same (w : World) (ao ab : Option Addr) (co cb : Nat) (h1 : OptsIn w ao getMg.opts) (h2 : OptsIn w ab getMg.opts) : Calls Tryd.prog 8 #[mgV getMg ao co, mgV getMg ab cb] w fun e w' => e = .returned (.bool true) ∧ Below w.heap.size w w' :=
  msame_yes getMg ao ab co cb w h1 h2 (by decide)
end Go.Proofs.YtgmjdelgocbcaacDoor
