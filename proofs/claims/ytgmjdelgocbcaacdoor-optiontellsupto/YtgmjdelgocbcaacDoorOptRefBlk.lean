/-
  blockOf and messageIs: what they answer.
-/
import Derived.Test.YtgmjdelgocbcaacDoorOptRefUint
import Derived.Test.YtgmjdelgocbcaacDoorMsgEq
namespace Go.Proofs.YtgmjdelgocbcaacDoor
open Go.RowKit Go.PlainAid

theorem blkM_eq {x : Int} (h0 : 0 ≤ x) (h1 : x ≤ 16777215) : blkM x = (x / 8 % 2 == 1) := by
  unfold blkM
  rw [and_eight x h0 (by omega), Bool.eq_iff_iff]
  simp only [bne_iff_ne, ne_eq, beq_iff_eq]
  omega

set_option maxHeartbeats 4000000 in
set_option maxRecDepth 100000 in
theorem blockOf_any (m : Mg) (ao : Option Addr) (co : Nat) (w : World) (hl : OptsIn w ao m.opts) (hc : chkM m = 0) :
    Calls Tryd.prog 18 #[mgV m ao co] w fun e w' => e = .returned (.tuple #[blockV m, .int .i64 (blockE m)]) ∧ Below w.heap.size w w' := by
  have C : Hid (∀ W, Below w.heap.size w W → Calls Tryd.prog 17 #[mgV m ao co, .int .i64 23] W fun e w' => e = .returned (.tuple #[.int .i64 (uintN m 23), .int .i64 (uintE m 23)]) ∧ Below W.heap.size W w') := fun W h => by
    have := uintOf_any m ao co 23 W (hl.below h) hc
    rw [uintN, uintE, if_neg (by simp [hc]), if_neg (by simp [hc])]
    exact this
  have hr := uintN_range m 23
  have HV : Hid (blockV m = if blockE m = 0 then .agg #[.int .i64 (uintN m 23 / 16), .bool (uintN m 23 / 8 % 2 == 1), .int .i64 (uintN m 23 % 8)] else .agg #[.int .i64 0, .bool false, .int .i64 0]) := by
    show _ = _
    rw [blockV, blkM_eq hr.1 hr.2]; rfl
  have HE : Hid (blockE m = if uintE m 23 ≠ 0 then uintE m 23 else if isB (uintN m 23 / 16) (uintN m 23 % 8) = true then 0 else 3) := rfl
  clear hl hc
  generalize blockV m = BV at *
  generalize blockE m = BE at *
  generalize uintN m 23 = x at *
  generalize uintE m 23 = E at *
  have CB : Hid (∀ W, Calls Tryd.prog 19 #[.agg #[.int .i64 (x / 16), .bool (x / 8 % 2 == 1), .int .i64 (x % 8)]] W fun e w' => e = .returned (.int .i64 (if isB (x / 16) (x % 8) = true then 0 else 3)) ∧ Below W.heap.size W w') := fun W => blockErr_any (x / 16) (x / 8 % 2 == 1) (x % 8) W
  obtain ⟨R, HRR⟩ : ∃ R : Int, Hid ((if isB (x / 16) (x % 8) = true then (0 : Int) else 3) = R) := ⟨_, rfl⟩
  rw [HRR.out] at CB HE
  clear HRR
  obtain ⟨k, c, i, t, l, p⟩ := m
  simp only [mgV] at C ⊢
  have HB0 := hide (((Below.refl w.heap.size w).alloc (Nat.le_refl _) (.cells #[.int .i64 k, .int .i64 c, .int .i64 i, .string t, .slice ao l.length co, .string p] 24)).alloc (by simp) (.cells #[.int .i64 0, .bool false, .int .i64 0] 34))
  have HX1 : Hid (((w.alloc (.cells #[.int .i64 k, .int .i64 c, .int .i64 i, .string t, .slice ao l.length co, .string p] 24)).alloc (.cells #[.int .i64 0, .bool false, .int .i64 0] 34)).heap[w.heap.size + 1]? = some (.cells #[.int .i64 0, .bool false, .int .i64 0] 34 (0, 0))) := oblk1 (by simp)
  go_enter Tryd.func18, Tryd.ntmps18
  go_wp2_with fail
  refine (C.out _ HB0.out).mono ?_
  rintro e w1 ⟨rfl, hb1⟩
  have HB1 := hide (below_step HB0.out hb1)
  have hx1 := (hb1.block _ (Array.getElem?_eq_some_iff.1 HX1.out).1).trans HX1.out
  have q1 : ∀ o, w1.cell? ⟨w.heap.size + 1, o, none⟩ = (#[.int .i64 0, .bool false, .int .i64 0] : Array Value)[o]? := fun o => Lib.cell_of_heap hx1 o
  have f1 : ∀ o, w1.frozen? ⟨w.heap.size + 1, o, none⟩ = false := fun o => Lib.frozen_of_heap hx1 o
  have hlt1 : w.heap.size + 1 < w1.heap.size := (Array.getElem?_eq_some_iff.1 hx1).1
  replace HX1 := hide hx1
  clear hb1 hx1 C HB0
  by_cases hE : E = 0
  · have hE' : (E != 0) = false := by simp [hE]
    subst hE
    have HE2 : Hid (BE = R) := HE.out
    clear HE
    have HX2 : Hid ((w1.alloc (.cells #[.int .i64 (x / 16), .bool (x / 8 % 2 == 1), .int .i64 (x % 8)] 34)).heap[w1.heap.size]? = some (.cells #[.int .i64 (x / 16), .bool (x / 8 % 2 == 1), .int .i64 (x % 8)] 34 (0, 0))) := Go.heap_alloc_new w1 _
    have HX3 : Hid ((w1.alloc (.cells #[.int .i64 (x / 16), .bool (x / 8 % 2 == 1), .int .i64 (x % 8)] 34)).heap[w.heap.size + 1]? = some (.cells #[.int .i64 0, .bool false, .int .i64 0] 34 (0, 0))) := by show _ = _; rw [Below.heap_alloc _ _ _ hlt1]; exact HX1.out
    have HB2 := hide (HB1.out.alloc HB1.out.size (.cells #[.int .i64 (x / 16), .bool (x / 8 % 2 == 1), .int .i64 (x % 8)] 34))
    clear HX1 q1 f1
    go_wp2_with fail
    refine (CB.out _).mono ?_
    rintro e w2 ⟨rfl, hb2⟩
    have HB3 := hide (below_step HB2.out hb2)
    have hx2 := (hb2.block _ (Array.getElem?_eq_some_iff.1 HX2.out).1).trans HX2.out
    have hx3 := (hb2.block _ (Array.getElem?_eq_some_iff.1 HX3.out).1).trans HX3.out
    have q2 : ∀ o, w2.cell? ⟨w1.heap.size, o, none⟩ = (#[.int .i64 (x / 16), .bool (x / 8 % 2 == 1), .int .i64 (x % 8)] : Array Value)[o]? := fun o => Lib.cell_of_heap hx2 o
    have q3 : ∀ o, w2.cell? ⟨w.heap.size + 1, o, none⟩ = (#[.int .i64 0, .bool false, .int .i64 0] : Array Value)[o]? := fun o => Lib.cell_of_heap hx3 o
    have f3 : ∀ o, w2.frozen? ⟨w.heap.size + 1, o, none⟩ = false := fun o => Lib.frozen_of_heap hx3 o
    have hne : w1.heap.size ≠ w.heap.size + 1 := by omega
    clear hb2 hx2 hx3 HX2 HX3 HB2 HB1 CB
    generalize x / 16 = X1 at *
    generalize x % 8 = X3 at *
    generalize (x / 8 % 2 == 1) = X2 at *
    by_cases hR : R = 0
    · have hR' : (R != 0) = false := by simp [hR]
      have HE3 : Hid (BE = 0) := HE2.out.trans hR
      have HV3 : Hid (BV = .agg #[.int .i64 X1, .bool X2, .int .i64 X3]) := by have := HV.out; rw [if_pos HE3.out] at this; exact this
      subst hR
      clear HE2 HV
      have HBE := hide (((HB3.out.setCell (p := ⟨w.heap.size + 1, 0, none⟩) (by simp) (.int .i64 X1)).setCell (p := ⟨w.heap.size + 1, 1, none⟩) (by simp) (.bool X2)).setCell (p := ⟨w.heap.size + 1, 2, none⟩) (by simp) (.int .i64 X3))
      go_wp2
      exact bodyPost_ret (v := .tuple #[.agg #[.int .i64 X1, .bool X2, .int .i64 X3], .int .i64 0]) (by simp [results, Tryd.results18, go_sem, World.cell?_setCell_same, q3]) rfl ⟨by rw [HV3.out, HE3.out], HBE.out⟩
    · have hR' : (R != 0) = true := by simp [hR]
      have HV3 : Hid (BV = .agg #[.int .i64 0, .bool false, .int .i64 0]) := by have := HV.out; rw [if_neg (by rw [HE2.out]; exact hR)] at this; exact this
      clear HV hR
      have HBE := hide (((HB3.out.setCell (p := ⟨w.heap.size + 1, 0, none⟩) (by simp) (.int .i64 0)).setCell (p := ⟨w.heap.size + 1, 1, none⟩) (by simp) (.bool false)).setCell (p := ⟨w.heap.size + 1, 2, none⟩) (by simp) (.int .i64 0))
      go_wp2
      exact bodyPost_ret (v := .tuple #[.agg #[.int .i64 0, .bool false, .int .i64 0], .int .i64 R]) (by simp [results, Tryd.results18, go_sem, World.cell?_setCell_same, q3]) rfl ⟨by rw [HV3.out, HE2.out], HBE.out⟩
  · have hE' : (E != 0) = true := by simp [hE]
    have HE2 : Hid (BE = E) := by have := HE.out; rw [if_pos hE] at this; exact this
    have HV3 : Hid (BV = .agg #[.int .i64 0, .bool false, .int .i64 0]) := by have := HV.out; rw [if_neg (by rw [HE2.out]; exact hE)] at this; exact this
    clear HV HE hE CB
    have HBE := hide (((HB1.out.setCell (p := ⟨w.heap.size + 1, 0, none⟩) (by simp) (.int .i64 0)).setCell (p := ⟨w.heap.size + 1, 1, none⟩) (by simp) (.bool false)).setCell (p := ⟨w.heap.size + 1, 2, none⟩) (by simp) (.int .i64 0))
    go_wp2
    exact bodyPost_ret (v := .tuple #[.agg #[.int .i64 0, .bool false, .int .i64 0], .int .i64 E]) (by simp [results, Tryd.results18, go_sem, World.cell?_setCell_same, q1]) rfl ⟨by rw [HV3.out, HE2.out], HBE.out⟩

set_option maxHeartbeats 4000000 in
set_option maxRecDepth 100000 in
theorem messageIs_yes (M Q : Mg) (ao ab : Option Addr) (co cb : Nat) (E : Int) (w : World) (h1 : OptsIn w ao M.opts) (h0 : E = 0 → Q = M ∧ OptsIn w ab M.opts) (hz : E ≠ 0 → M = zMg) (hl : M.opts.length ≤ 13) :
    Calls Tryd.prog 24 #[mgV M ao co, .int .i64 E, .int .i64 E, mgV Q ab cb] w fun e w' => e = .returned (.bool true) ∧ Below w.heap.size w w' := by
  by_cases hE : E = 0
  · obtain ⟨rfl, h2⟩ := h0 hE
    subst hE
    have CS : Hid (∀ W, Below w.heap.size w W → Calls Tryd.prog 8 #[mgV Q ao co, mgV Q ab cb] W fun e w' => e = .returned (.bool true) ∧ Below W.heap.size W w') := fun W h => msame_yes Q ao ab co cb W (h1.below h) (h2.below h) hl
    clear h0 hz h1 h2 hl
    obtain ⟨k, c, i, t, l, p⟩ := Q
    simp only [mgV] at CS ⊢
    have HB0 := hide (((Below.refl w.heap.size w).alloc (Nat.le_refl _) (.cells #[.int .i64 k, .int .i64 c, .int .i64 i, .string t, .slice ao l.length co, .string p] 24)).alloc (by simp) (.cells #[.int .i64 k, .int .i64 c, .int .i64 i, .string t, .slice ab l.length cb, .string p] 24))
    go_enter Tryd.func24, Tryd.ntmps24
    go_wp2_with fail
    refine (CS.out _ HB0.out).mono ?_
    rintro e w1 ⟨rfl, hb1⟩
    have HB1 := hide (below_step HB0.out hb1)
    clear hb1 HB0
    go_wp2
    go_ret
    exact ⟨rfl, HB1.out⟩
  · obtain rfl := hz hE
    have CS : Hid (∀ W, Below w.heap.size w W → Calls Tryd.prog 8 #[mgV zMg ao co, mgV zMg none 0] W fun e w' => e = .returned (.bool true) ∧ Below W.heap.size W w') := fun W h => msame_yes zMg ao none co 0 W (.inl rfl) (.inl rfl) (by decide)
    have hE' : (E != 0) = true := by simp [hE]
    clear h0 hz h1 hl hE
    obtain ⟨k, c, i, t, l, p⟩ := Q
    simp only [zMg_v] at CS ⊢
    simp only [mgV]
    have HB0 := hide (((Below.refl w.heap.size w).alloc (Nat.le_refl _) (.cells #[.int .i64 0, .int .i64 0, .int .i64 0, .string ⟨#[]⟩, .slice ao 0 co, .string ⟨#[]⟩] 24)).alloc (by simp) (.cells #[.int .i64 0, .int .i64 0, .int .i64 0, .string ⟨#[]⟩, .slice none 0 0, .string ⟨#[]⟩] 24))
    go_enter Tryd.func24, Tryd.ntmps24
    go_wp2_with fail
    refine (CS.out _ HB0.out).mono ?_
    rintro e w1 ⟨rfl, hb1⟩
    have HB1 := hide (below_step HB0.out hb1)
    clear hb1 HB0
    go_wp2
    go_ret
    exact ⟨rfl, HB1.out⟩
end Go.Proofs.YtgmjdelgocbcaacDoor
