/-
  option.shortest, checked, values: what they answer.
-/
import Derived.Test.YtgmjdelgocbcaacDoorOptWith
import Derived.Test.YtgmjdelgocbcaacDoorWireNumber
namespace Go.Proofs.YtgmjdelgocbcaacDoor
open Go.RowKit Go.PlainAid

def zMg : Mg := ⟨0, 0, 0, ⟨#[]⟩, [], ⟨#[]⟩⟩
/-- the bytes that tell a number, none of them 0 ahead -/
def shortS (n : Int) : ByteArray := ⟨(Lib.trimLeftB (numS n 3).data.toList 0).toArray⟩
set_option maxHeartbeats 1000000 in
theorem shortest_any (n : Int) (w : World) : Calls Tryd.prog 30 #[.int .i64 n] w fun e w' => e = .returned (.string (shortS n)) ∧ Below w.heap.size w w' := by
  unfold shortS
  have C : Hid (∀ W, Calls Tryd.prog 47 #[.string (numS n 3), .string ⟨#[0]⟩] W fun e w' => e = .returned (.string ⟨(Lib.trimLeftB (numS n 3).data.toList 0).toArray⟩) ∧ w' = W) := fun W => Tryd.strings_TrimLeft_one (numS n 3) 0 (by decide) W
  generalize (⟨(Lib.trimLeftB (numS n 3).data.toList 0).toArray⟩ : ByteArray) = R at *
  go_enter Tryd.func30, Tryd.ntmps30
  go_wp2_with fail
  refine (number_any n 3 _).mono ?_
  rintro e w1 ⟨rfl, hb1⟩
  have HB := hide hb1
  clear hb1
  go_wp2_with fail
  refine (C.out _).mono ?_
  rintro e w2 ⟨rfl, h2⟩
  subst h2
  go_wp2
  go_ret
  exact ⟨rfl, HB.out⟩

/-- a message and a number come -/
def NewC (w : World) (m : Mg) (E : Int) (e : Ending) (w' : World) : Prop := ∃ aa ca, e = .returned (.tuple #[mgV m aa ca, .int .i64 E]) ∧ OptsIn w' aa m.opts ∧ Below w.heap.size w w'
def chkdM (m : Mg) : Mg := if chkM m = 0 then m else zMg

theorem six_cells (w : World) (x0 x1 x2 x3 x4 x5 : Value) : ∀ o, (w.alloc (.cells #[x0, x1, x2, x3, x4, x5] 24)).cell? ⟨w.heap.size, o, none⟩ = (#[x0, x1, x2, x3, x4, x5] : Array Value)[o]? := fun o => Lib.cell_of_heap (Go.heap_alloc_new w _) o

set_option maxHeartbeats 2000000 in
set_option maxRecDepth 100000 in
theorem checked_any (m : Mg) (ao : Option Addr) (co : Nat) (w : World) (hl : OptsIn w ao m.opts) :
    Calls Tryd.prog 28 #[mgV m ao co] w fun e w' => e = .returned (.tuple #[mgV (chkdM m) (if chkM m = 0 then ao else none) (if chkM m = 0 then co else 0), .int .i64 (chkM m)]) ∧ Below w.heap.size w w' := by
  have C : Hid (∀ W, Below w.heap.size w W → Calls Tryd.prog 27 #[mgV m ao co] W fun e w' => e = .returned (.int .i64 (chkM m)) ∧ Below W.heap.size W w') := fun W h => mcheck_any m ao co W (hl.below h)
  have H1 : Hid (chkM m = 0 → chkdM m = m) := fun h => if_pos h
  have H0 : Hid (chkM m ≠ 0 → chkdM m = zMg) := fun h => if_neg h
  have HL := hide hl
  clear hl
  generalize hAA : (if chkM m = 0 then ao else none) = AA
  generalize hCC : (if chkM m = 0 then co else 0) = CC
  have HA1 : Hid (chkM m = 0 → AA = ao ∧ CC = co) := fun h => by rw [← hAA, ← hCC, if_pos h, if_pos h]; exact ⟨rfl, rfl⟩
  have HA0 : Hid (chkM m ≠ 0 → AA = none ∧ CC = 0) := fun h => by rw [← hAA, ← hCC, if_neg h, if_neg h]; exact ⟨rfl, rfl⟩
  clear hAA hCC
  generalize chkM m = E at *
  generalize chkdM m = D at *
  obtain ⟨k, c, i, t, l, p⟩ := m
  simp only [mgV] at C HL ⊢
  have HB0 := hide (((Below.refl w.heap.size w).alloc (Nat.le_refl _) (.cells #[.int .i64 k, .int .i64 c, .int .i64 i, .string t, .slice ao l.length co, .string p] 24)).alloc (by simp) (.cells #[.int .i64 0, .int .i64 0, .int .i64 0, .string ⟨#[]⟩, .slice none 0 0, .string ⟨#[]⟩] 24))
  have HX0 : Hid (((w.alloc (.cells #[.int .i64 k, .int .i64 c, .int .i64 i, .string t, .slice ao l.length co, .string p] 24)).alloc (.cells #[.int .i64 0, .int .i64 0, .int .i64 0, .string ⟨#[]⟩, .slice none 0 0, .string ⟨#[]⟩] 24)).heap[w.heap.size]? = some (.cells #[.int .i64 k, .int .i64 c, .int .i64 i, .string t, .slice ao l.length co, .string p] 24 (0, 0))) := by
    show _ = _
    rw [Below.heap_alloc _ _ _ (by simp)]; exact Go.heap_alloc_new w _
  have HX1 : Hid (((w.alloc (.cells #[.int .i64 k, .int .i64 c, .int .i64 i, .string t, .slice ao l.length co, .string p] 24)).alloc (.cells #[.int .i64 0, .int .i64 0, .int .i64 0, .string ⟨#[]⟩, .slice none 0 0, .string ⟨#[]⟩] 24)).heap[w.heap.size + 1]? = some (.cells #[.int .i64 0, .int .i64 0, .int .i64 0, .string ⟨#[]⟩, .slice none 0 0, .string ⟨#[]⟩] 24 (0, 0))) := oblk1 (by simp)
  go_enter Tryd.func28, Tryd.ntmps28
  go_upto_region 1 with fail
  revert HB0 HX0 HX1
  generalize (w.alloc (.cells #[.int .i64 k, .int .i64 c, .int .i64 i, .string t, .slice ao l.length co, .string p] 24)).alloc (.cells #[.int .i64 0, .int .i64 0, .int .i64 0, .string ⟨#[]⟩, .slice none 0 0, .string ⟨#[]⟩] 24) = W0
  intro HB0 HX0 HX1
  have q : ∀ o, W0.cell? ⟨w.heap.size, o, none⟩ = (#[.int .i64 k, .int .i64 c, .int .i64 i, .string t, .slice ao l.length co, .string p] : Array Value)[o]? := fun o => Lib.cell_of_heap HX0.out o
  go_wp2_with fail
  refine (C.out _ HB0.out).mono ?_
  rintro e w1 ⟨rfl, hb1⟩
  have HB1 := hide (below_step HB0.out hb1)
  have hx0 := (hb1.block _ (Array.getElem?_eq_some_iff.1 HX0.out).1).trans HX0.out
  have hx1 := (hb1.block _ (Array.getElem?_eq_some_iff.1 HX1.out).1).trans HX1.out
  have q0 : ∀ o, w1.cell? ⟨w.heap.size, o, none⟩ = (#[.int .i64 k, .int .i64 c, .int .i64 i, .string t, .slice ao l.length co, .string p] : Array Value)[o]? := fun o => Lib.cell_of_heap hx0 o
  have q1 : ∀ o, w1.cell? ⟨w.heap.size + 1, o, none⟩ = (#[.int .i64 0, .int .i64 0, .int .i64 0, .string ⟨#[]⟩, .slice none 0 0, .string ⟨#[]⟩] : Array Value)[o]? := fun o => Lib.cell_of_heap hx1 o
  have f1 : ∀ o, w1.frozen? ⟨w.heap.size + 1, o, none⟩ = false := fun o => Lib.frozen_of_heap hx1 o
  clear hb1 hx0 hx1 HX0 HX1 q C HB0
  by_cases hE : E = 0
  · have hE' : (E != 0) = false := by simp [hE]
    obtain rfl := H1.out hE
    obtain ⟨hA, hC⟩ := HA1.out hE
    replace hA := hA.symm
    replace hC := hC.symm
    subst hA
    subst hC
    subst hE
    clear H1 H0 HA1 HA0
    have HBE := hide (set6_below HB1.out (show w.heap.size ≤ w.heap.size + 1 by omega) (.int .i64 k) (.int .i64 c) (.int .i64 i) (.string t) (.slice ao l.length co) (.string p))
    go_wp2
    exact bodyPost_ret (v := .tuple #[.agg #[.int .i64 k, .int .i64 c, .int .i64 i, .string t, .slice ao l.length co, .string p], .int .i64 0]) (by simp [results, Tryd.results28, go_sem, World.cell?_setCell_same, q1]) rfl ⟨rfl, HBE.out⟩
  · have hE' : (E != 0) = true := by simp [hE]
    obtain rfl := H0.out hE
    obtain ⟨rfl, rfl⟩ := HA0.out hE
    clear H1 H0 hE HA1 HA0
    have HBE := hide (set6_below HB1.out (show w.heap.size ≤ w.heap.size + 1 by omega) (.int .i64 0) (.int .i64 0) (.int .i64 0) (.string ⟨#[]⟩) (.slice none 0 0) (.string ⟨#[]⟩))
    go_wp2
    exact bodyPost_ret (v := .tuple #[.agg #[.int .i64 0, .int .i64 0, .int .i64 0, .string ⟨#[]⟩, .slice none 0 0, .string ⟨#[]⟩], .int .i64 E]) (by simp [results, Tryd.results28, go_sem, World.cell?_setCell_same, q1]) rfl ⟨rfl, HBE.out⟩
end Go.Proofs.YtgmjdelgocbcaacDoor
