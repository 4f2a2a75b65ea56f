/-
  dragomanref.SameMessage of a message and itself: true, wherever its options lie; dragomanlaw.get and messageBegun.
-/
import Derived.Test.YtedlebkpdejhiacMsgDec
import Derived.Test.YtedlebkpdejhiacMsgWrite
import Derived.Deep.QuietTactic
import Derived.BigQuiet
import Derived.Deep.RegionWith
namespace Go.Proofs.Ytedlebkpdejhiac
open Go.RowKit Go.PlainAid

set_option maxHeartbeats 8000000 in
set_option maxRecDepth 100000 in
theorem msame_yes (m : Mg) (ao ab : Option Addr) (co cb : Nat) (w : World) (h1 : OptsIn w ao m.opts) (h2 : OptsIn w ab m.opts) (hl : m.opts.length ≤ 13) :
    Calls Try.prog 13 #[mgV m ao co, mgV m ab cb] w fun e w' => e = .returned (.bool true) ∧ Below w.heap.size w w' := by
  have H1 := hide h1
  have H2 := hide h2
  clear h1 h2
  obtain ⟨k, c, i, t, l, p⟩ := m
  simp only [mgV]
  simp only at hl
  have hB : Below w.heap.size w ((w.alloc (.cells #[.int .i64 k, .int .i64 c, .int .i64 i, .string t, .slice ao l.length co, .string p] 24)).alloc (.cells #[.int .i64 k, .int .i64 c, .int .i64 i, .string t, .slice ab l.length cb, .string p] 24)) := ((Below.refl _ _).alloc (Nat.le_refl _) _).alloc (by simp) _
  have c1 : ∀ o, ((w.alloc (.cells #[.int .i64 k, .int .i64 c, .int .i64 i, .string t, .slice ao l.length co, .string p] 24)).alloc (.cells #[.int .i64 k, .int .i64 c, .int .i64 i, .string t, .slice ab l.length cb, .string p] 24)).cell? ⟨w.heap.size, o, none⟩ = (#[.int .i64 k, .int .i64 c, .int .i64 i, .string t, .slice ao l.length co, .string p] : Array Value)[o]? := fun o => by
    rw [World.cell?_alloc_old _ _ _ (by simp)]
    exact Lib.cell_of_heap (Go.heap_alloc_new w _) o
  have c2 : ∀ o, ((w.alloc (.cells #[.int .i64 k, .int .i64 c, .int .i64 i, .string t, .slice ao l.length co, .string p] 24)).alloc (.cells #[.int .i64 k, .int .i64 c, .int .i64 i, .string t, .slice ab l.length cb, .string p] 24)).cell? ⟨w.heap.size + 1, o, none⟩ = (#[.int .i64 k, .int .i64 c, .int .i64 i, .string t, .slice ab l.length cb, .string p] : Array Value)[o]? := fun o => by
    have h0 := Go.heap_alloc_new (w.alloc (.cells #[.int .i64 k, .int .i64 c, .int .i64 i, .string t, .slice ao l.length co, .string p] 24)) (.cells #[.int .i64 k, .int .i64 c, .int .i64 i, .string t, .slice ab l.length cb, .string p] 24)
    simp only [World.size_alloc] at h0
    exact Lib.cell_of_heap h0 o
  go_enter Try.func13, Try.ntmps13
  go_upto_region 4 with fail
  revert hB c1 c2
  generalize (w.alloc (.cells #[.int .i64 k, .int .i64 c, .int .i64 i, .string t, .slice ao l.length co, .string p] 24)).alloc (.cells #[.int .i64 k, .int .i64 c, .int .i64 i, .string t, .slice ab l.length cb, .string p] 24) = W2
  intro hB c1 c2
  have HB := hide hB
  have HA1 := hide (H1.out.below hB)
  have HA2 := hide (H2.out.below hB)
  clear hB H1 H2
  go_loopw [5] (fun x wr => ∃ n m : Nat, n ≤ l.length ∧ x = .int .i64 n ∧ wr = W2.drewN m) (fun x _ => l.length - (intOf x).toNat)
  case atStart => exact ⟨0, 0, by omega, rfl, rfl⟩
  case round =>
    obtain ⟨n, m, hn, rfl, rfl⟩ := hrel
    by_cases hlt : n < l.length
    · obtain ⟨b1, o1, rfl, y1⟩ : ∃ b o, ao = some ⟨b, o, none⟩ ∧ W2.cell? ⟨b, o + n * 2, none⟩ = some (.int .i64 l[n].1) ∧ W2.cell? ⟨b, o + n * 2 + 1, none⟩ = some (.string l[n].2) := by
        rcases HA1.out with h0 | ⟨b, o, g0, _, g1⟩
        · exact absurd hlt (by rw [h0]; simp)
        · exact ⟨b, o, g0, g1 n hlt⟩
      obtain ⟨b2, o2, rfl, y2⟩ : ∃ b o, ab = some ⟨b, o, none⟩ ∧ W2.cell? ⟨b, o + n * 2, none⟩ = some (.int .i64 l[n].1) ∧ W2.cell? ⟨b, o + n * 2 + 1, none⟩ = some (.string l[n].2) := by
        rcases HA2.out with h0 | ⟨b, o, g0, _, g1⟩
        · exact absurd hlt (by rw [h0]; simp)
        · exact ⟨b, o, g0, g1 n hlt⟩
      have hlt' : (n : Int) < l.length := by omega
      generalize l[n] = x at *
      obtain ⟨f, y⟩ := x
      simp only at y1 y2
      obtain ⟨y1, y1'⟩ := y1
      obtain ⟨y2, y2'⟩ := y2
      go_wp2_with fail
      go_quiet (fail)
      go_wp2
      go_round
      case rel => exact ⟨n + 1, _, by omega, by go_num, by first | rfl | (simp; rfl)⟩
      case measure => simp [intOf]; omega
    · have hge : (l.length : Int) ≤ n := by omega
      clear hlt hn
      go_wp2
      go_ret
      exact ⟨rfl, HB.out.trans (by have := (Below.refl w.heap.size W2); exact ⟨this.os, this.tape, this.output, this.size, this.block⟩)⟩

/-- a message that asks for a topic -/
def getMg : Mg := ⟨0, 1, 258, ⟨#[116]⟩, [(6, ⟨#[]⟩), (11, ⟨#[97]⟩), (11, ⟨#[98]⟩)], ⟨#[]⟩⟩
theorem get_v (ao : Option Addr) (co : Nat) : mgV getMg ao co = .agg #[.int .i64 0, .int .i64 1, .int .i64 258, .string ⟨#[116]⟩, .slice ao 3 co, .string ⟨#[]⟩] := rfl
theorem get_chk : chkM getMg = 0 := by decide +kernel
theorem get_enc : encM getMg = ⟨#[65, 1, 1, 2, 116, 96, 81, 97, 1, 98]⟩ := by decide +kernel
def GetPost (w : World) (e : Ending) (w' : World) : Prop := ∃ ao co, e = .returned (mgV getMg ao co) ∧ OptsIn w' ao getMg.opts ∧ Below w.heap.size w w'

set_option maxHeartbeats 2000000 in
theorem get_any' (w : World) : Calls Try.prog 14 #[] w (GetPost w) := by
  go_enter Try.func14, Try.ntmps14
  go_wp2
  refine bodyPost_ret (v := mgV getMg (some ⟨w.heap.size + 1, 0, none⟩) 3) (by simp [results, Try.results14, go_sem, mgV, getMg]) rfl ⟨_, 3, rfl, .inr ⟨w.heap.size + 1, 0, rfl, by simp, fun i hi => ?_⟩, ((Below.refl _ _).alloc (Nat.le_refl _) _).alloc (by simp) _⟩
  have hi' : i < 3 := hi
  have h3 : i = 0 ∨ i = 1 ∨ i = 2 := by omega
  rcases h3 with rfl | rfl | rfl <;> simp [getMg]

theorem get_encode (w : World) (ao : Option Addr) (co : Nat) (h : OptsIn w ao getMg.opts) : Calls Try.prog 7 #[mgV getMg ao co] w fun e w' => e = .returned (.tuple #[.string ⟨#[65, 1, 1, 2, 116, 96, 81, 97, 1, 98]⟩, .int .i64 0]) ∧ Below w.heap.size w w' := by
  have := mencode_any getMg ao co w h
  rwa [show encMS getMg = encM getMg from if_pos get_chk, get_enc, get_chk] at this
theorem get_decode (w : World) : Calls Try.prog 8 #[.string ⟨#[65, 1, 1, 2, 116, 96, 81, 97, 1, 98]⟩] w (NewMsg w getMg (.int .i64 0)) := by
  have := mdecode_any ⟨#[65, 1, 1, 2, 116, 96, 81, 97, 1, 98]⟩ w (by decide)
  have hd := mdec_enc get_chk
  rw [get_enc] at hd
  rwa [hd.1, hd.2] at this
theorem get_check (w : World) (ao : Option Addr) (co : Nat) (h : OptsIn w ao getMg.opts) : Calls Try.prog 12 #[mgV getMg ao co] w fun e w' => e = .returned (.int .i64 0) ∧ Below w.heap.size w w' := by
  have := mcheck_any getMg ao co w h
  rwa [get_chk] at this
theorem get_same (w : World) (ao ab : Option Addr) (co cb : Nat) (h1 : OptsIn w ao getMg.opts) (h2 : OptsIn w ab getMg.opts) : Calls Try.prog 13 #[mgV getMg ao co, mgV getMg ab cb] w fun e w' => e = .returned (.bool true) ∧ Below w.heap.size w w' :=
  msame_yes getMg ao ab co cb w h1 h2 (by decide)

set_option maxHeartbeats 4000000 in
set_option maxRecDepth 100000 in
theorem messageBegun_yes (w : World) : Calls Try.prog 6 #[] w fun e w' => e = .returned (.bool true) ∧ Below w.heap.size w w' := by
  have P1 := hide get_any'
  have P2 := hide get_encode
  have P3 := hide get_decode
  have P4 := hide get_check
  have P5 := hide get_same
  simp only [get_v] at P2 P4 P5
  go_enter Try.func6, Try.ntmps6
  go_wp2_with fail
  refine (P1.out _).mono ?_
  rintro e w1 ⟨ga, gc, rfl, hg1, hb1⟩
  rw [get_v]
  have HG1 := hide hg1
  have HB1 := hide hb1
  clear hg1 hb1
  go_wp2_with fail
  refine (P2.out _ _ _ HG1.out).mono ?_
  rintro e w2 ⟨rfl, hb2⟩
  have HB2 := hide (below_step HB1.out hb2)
  clear hb2 HB1 HG1
  go_wp2_with fail
  refine (P3.out _).mono ?_
  rintro e w3 ⟨ao, co, rfl, ho3, _, hb3⟩
  rw [get_v]
  have HB3 := hide (below_step HB2.out hb3)
  have HO3 := hide ho3
  clear hb3 ho3 HB2
  go_upto_region 3 with fail
  have hbx : Below w3.heap.size w3 (w3.alloc (.cells #[.int .i64 0, .int .i64 1, .int .i64 258, .string ⟨#[116]⟩, .slice ao 3 co, .string ⟨#[]⟩] 24)) := (Below.refl _ _).alloc (Nat.le_refl _) _
  have HX : Hid (Ma w3.heap.size getMg (.slice ao 3 co) (w3.alloc (.cells #[.int .i64 0, .int .i64 1, .int .i64 258, .string ⟨#[116]⟩, .slice ao 3 co, .string ⟨#[]⟩] 24)).drew) := Go.heap_alloc_new w3 _
  have HBc : Hid (Below w.heap.size w (w3.alloc (.cells #[.int .i64 0, .int .i64 1, .int .i64 258, .string ⟨#[116]⟩, .slice ao 3 co, .string ⟨#[]⟩] 24)).drew) := Below.drew (below_step HB3.out hbx)
  have HI : Hid (OptsIn (w3.alloc (.cells #[.int .i64 0, .int .i64 1, .int .i64 258, .string ⟨#[116]⟩, .slice ao 3 co, .string ⟨#[]⟩] 24)).drew ao getMg.opts) := HO3.out.below (Below.drew hbx)
  have x1 : ∀ o, (w3.alloc (.cells #[.int .i64 0, .int .i64 1, .int .i64 258, .string ⟨#[116]⟩, .slice ao 3 co, .string ⟨#[]⟩] 24)).cell? ⟨w3.heap.size, o, none⟩ = (#[.int .i64 0, .int .i64 1, .int .i64 258, .string ⟨#[116]⟩, .slice ao 3 co, .string ⟨#[]⟩] : Array Value)[o]? := HX.out.cell
  revert HX HBc HI x1
  clear hbx
  generalize w3.alloc (.cells #[.int .i64 0, .int .i64 1, .int .i64 258, .string ⟨#[116]⟩, .slice ao 3 co, .string ⟨#[]⟩] 24) = W
  intro HX HBc HI x1
  clear HB3 HO3
  go_region_with (first
    | (go_at_call 14; refine (P1.out _).mono ?_; rintro e wx ⟨gb, gd, rfl, hg, hbx⟩; rw [get_v]; have HG := hide hg; have HX := hide (HX.out.below hbx); have HI := hide (HI.out.below hbx); have HBc := hide (below_step HBc.out hbx); have x1 := HX.out.cell; simp only [getMg] at x1; clear hg hbx)
    | (go_at_call 12; refine (P4.out _ _ _ HG.out).mono ?_; rintro e wx ⟨rfl, hbx⟩; have HG := hide (HG.out.below hbx); have HX := hide (HX.out.below hbx); have HI := hide (HI.out.below hbx); have HBc := hide (below_step HBc.out hbx); have x1 := HX.out.cell; simp only [getMg] at x1; clear hbx)
    | (go_at_call 13; refine (P5.out _ _ _ _ _ HI.out HG.out).mono ?_; rintro e wx ⟨rfl, hbx⟩; have HX := hide (HX.out.below hbx); have HI := hide (HI.out.below hbx); have HBc := hide (below_step HBc.out hbx); have x1 := HX.out.cell; simp only [getMg] at x1; clear hbx))
  all_goals
    go_wp2
    go_ret
    exact ⟨rfl, HBc.out⟩
end Go.Proofs.Ytedlebkpdejhiac
