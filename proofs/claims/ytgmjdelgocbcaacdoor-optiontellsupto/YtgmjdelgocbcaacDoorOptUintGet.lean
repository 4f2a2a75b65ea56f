/-
  option.Uint: what it answers.
-/
import Derived.Test.YtgmjdelgocbcaacDoorOptValues
import Derived.Test.YtgmjdelgocbcaacDoorWireGets
namespace Go.Proofs.YtgmjdelgocbcaacDoor
open Go.RowKit Go.PlainAid

theorem chk_sizes {m : Mg} (h : chkM m = 0) : ∀ k ∈ m.opts, k.2.size ≤ 60 := fun k hk => by
  obtain ⟨i, hi, rfl⟩ := List.getElem_of_mem hk
  exact (optsE_ok m.opts 0 (chkM_ok h).2.2.2.2.2.2 i hi).2.2
theorem vals_sizes {m : Mg} (h : chkM m = 0) (n : Int) : ∀ s ∈ valsL m.opts n, s.size ≤ 60 := fun s hs => by
  obtain ⟨k, hk, rfl⟩ := List.mem_map.1 hs
  exact chk_sizes h k (List.mem_filter.1 hk).1
def frsN : List ByteArray → Int
  | [] => 0
  | s :: _ => if 3 < s.size then 0 else (beN s 0 s.size : Int)
def frsE : List ByteArray → Int
  | [] => 5
  | s :: _ => if 3 < s.size then 1 else 0
def uintE (m : Mg) (n : Int) : Int := if chkM m ≠ 0 then chkM m else frsE (valsL m.opts n)
def uintN (m : Mg) (n : Int) : Int := if chkM m ≠ 0 then 0 else frsN (valsL m.opts n)

set_option maxHeartbeats 4000000 in
set_option maxRecDepth 100000 in
theorem uint_any (m : Mg) (ao : Option Addr) (co : Nat) (n : Int) (w : World) (hl : OptsIn w ao m.opts) :
    Calls Tryd.prog 11 #[mgV m ao co, .int .i64 n] w fun e w' => e = .returned (.tuple #[.int .i64 (uintN m n), .int .i64 (uintE m n)]) ∧ Below w.heap.size w w' := by
  have C : Hid (∀ W, Below w.heap.size w W → Calls Tryd.prog 27 #[mgV m ao co] W fun e w' => e = .returned (.int .i64 (chkM m)) ∧ Below W.heap.size W w') := fun W h => mcheck_any m ao co W (hl.below h)
  have CV : Hid (chkM m = 0 → ∀ W, Below w.heap.size w W → Calls Tryd.prog 31 #[mgV m ao co, .int .i64 n] W (SRow W (valsL m.opts n))) := fun h W hW => values_any m ao co n W (hl.below hW) (chkM_ok h).2.2.2.2.1 fun k hk => Nat.le_trans (chk_sizes h k hk) (by decide)
  have HV : Hid (chkM m = 0 → ∀ s ∈ valsL m.opts n, s.size ≤ 60) := fun h => vals_sizes h n
  have HN : Hid (uintN m n = if chkM m ≠ 0 then 0 else frsN (valsL m.opts n)) := rfl
  have HE : Hid (uintE m n = if chkM m ≠ 0 then chkM m else frsE (valsL m.opts n)) := rfl
  clear hl
  generalize uintN m n = UN at *
  generalize uintE m n = UE at *
  generalize valsL m.opts n = V at *
  generalize chkM m = E at *
  obtain ⟨k, c, i, t, l, p⟩ := m
  simp only [mgV] at C CV ⊢
  have HB0 := hide ((Below.refl w.heap.size w).alloc (Nat.le_refl _) (.cells #[.int .i64 k, .int .i64 c, .int .i64 i, .string t, .slice ao l.length co, .string p] 24))
  have HX0 : Hid ((w.alloc (.cells #[.int .i64 k, .int .i64 c, .int .i64 i, .string t, .slice ao l.length co, .string p] 24)).heap[w.heap.size]? = some (.cells #[.int .i64 k, .int .i64 c, .int .i64 i, .string t, .slice ao l.length co, .string p] 24 (0, 0))) := Go.heap_alloc_new w _
  go_enter Tryd.func11, Tryd.ntmps11
  go_upto_region 1 with fail
  revert HB0 HX0
  generalize w.alloc (.cells #[.int .i64 k, .int .i64 c, .int .i64 i, .string t, .slice ao l.length co, .string p] 24) = W0
  intro HB0 HX0
  have q : ∀ o, W0.cell? ⟨w.heap.size, o, none⟩ = (#[.int .i64 k, .int .i64 c, .int .i64 i, .string t, .slice ao l.length co, .string p] : Array Value)[o]? := fun o => Lib.cell_of_heap HX0.out o
  go_wp2_with fail
  refine (C.out _ HB0.out).mono ?_
  rintro e w1 ⟨rfl, hb1⟩
  have HB1 := hide (below_step HB0.out hb1)
  have hx0 := (hb1.block _ (Array.getElem?_eq_some_iff.1 HX0.out).1).trans HX0.out
  have q0 : ∀ o, w1.cell? ⟨w.heap.size, o, none⟩ = (#[.int .i64 k, .int .i64 c, .int .i64 i, .string t, .slice ao l.length co, .string p] : Array Value)[o]? := fun o => Lib.cell_of_heap hx0 o
  clear hb1 hx0 HX0 q C HB0
  by_cases hE : E = 0
  · have hE' : (E != 0) = false := by simp [hE]
    have CV2 := hide (CV.out hE)
    have HV2 := hide (HV.out hE)
    have HN2 : Hid (UN = frsN V) := by have := HN.out; rw [if_neg (by simp [hE])] at this; exact this
    have HE2 : Hid (UE = frsE V) := by have := HE.out; rw [if_neg (by simp [hE])] at this; exact this
    clear CV HV HN HE
    subst hE
    go_wp2_with fail
    refine (CV2.out _ HB1.out).mono ?_
    intro e w2 h2
    obtain ⟨aa, ca, rfl, hsi, _, hb2⟩ := h2
    have HB2 := hide (below_step HB1.out hb2)
    have HSI := hide hsi
    clear hsi hb2 CV2 HB1 q0
    cases V with
    | nil =>
      clear HSI HV2
      go_wp2
      go_ret2
      exact ⟨by rw [HN2.out, HE2.out]; rfl, HB2.out⟩
    | cons s V =>
      obtain ⟨b, o, rfl, hb, hcell⟩ := strs_here (k := 0) HSI.out (by simp)
      have hc0 : w2.cell? ⟨b, o, none⟩ = some (.string s) := hcell 0 (by simp)
      have hs60 := HV2.out s (by simp)
      clear hcell HSI HV2
      have hln : (((s :: V).length : Nat) : Int) = (V.length : Int) + 1 := by simp
      by_cases h3 : 3 < s.size
      · have h3' : decide ((3 : Int) < (s.size : Int)) = true := by simp; omega
        have HN3 : Hid (UN = 0) := by have := HN2.out; rw [frsN, if_pos h3] at this; exact this
        have HE3 : Hid (UE = 1) := by have := HE2.out; rw [frsE, if_pos h3] at this; exact this
        clear HN2 HE2
        go_wp2
        go_ret2
        exact ⟨by rw [HN3.out, HE3.out]; rfl, HB2.out⟩
      · have h3' : decide ((3 : Int) < (s.size : Int)) = false := by simp; omega
        have HN3 : Hid (UN = (beN s 0 s.size : Int)) := by have := HN2.out; rw [frsN, if_neg h3] at this; exact this
        have HE3 : Hid (UE = 0) := by have := HE2.out; rw [frsE, if_neg h3] at this; exact this
        clear HN2 HE2
        by_cases h0 : s.size = 0
        · have hse : s = ⟨#[]⟩ := ByteArray.ext (Array.eq_empty_of_size_eq_zero h0)
          subst hse
          go_wp2
          go_ret2
          exact ⟨by rw [HN3.out, HE3.out]; rfl, HB2.out⟩
        · have hse : (s.toList == []) = false := by
            rw [beq_eq_false_iff_ne]
            intro h
            rw [ByteArray.toList_eq] at h
            exact h0 (by have := congrArg List.length h; simpa using this)
          have CG := hide (fun W => get_ok s 0 s.size W (by unfold maxLen; omega) (by omega) (by omega) (by omega))
          go_wp2_with (go_at_call 36; refine (CG.out _).mono ?_; rintro e w3 ⟨rfl, h3w⟩; subst h3w)
          go_ret2
          exact ⟨by rw [HN3.out, HE3.out]; rfl, HB2.out⟩
  · have hE' : (E != 0) = true := by simp [hE]
    have HN2 : Hid (UN = 0) := by have := HN.out; rw [if_pos hE] at this; exact this
    have HE2 : Hid (UE = E) := by have := HE.out; rw [if_pos hE] at this; exact this
    clear CV HV HN HE hE
    go_wp2
    go_ret2
    exact ⟨by rw [HN2.out, HE2.out]; rfl, HB1.out⟩
end Go.Proofs.YtgmjdelgocbcaacDoor
