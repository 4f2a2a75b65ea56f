/-
  option.isBlock and Block: what they answer.
-/
import Derived.Test.YtgmjdelgocbcaacDoorOptUintGet
namespace Go.Proofs.YtgmjdelgocbcaacDoor
open Go.RowKit Go.PlainAid

def bkV (n : Int) (more : Bool) (z : Int) : Value := .agg #[.int .i64 n, .bool more, .int .i64 z]
def isB (n z : Int) : Bool := decide (0 ≤ z) && decide (z ≤ 6) && decide (0 ≤ n) && decide (n ≤ 1048575)

set_option maxHeartbeats 1000000 in
theorem isBlock_any (n : Int) (more : Bool) (z : Int) (w : World) : Calls Tryd.prog 37 #[bkV n more z] w fun e w' => e = .returned (.bool (isB n z)) ∧ Below w.heap.size w w' := by
  have HB := hide ((Below.refl w.heap.size w).alloc (Nat.le_refl _) (.cells #[.int .i64 n, .bool more, .int .i64 z] 34))
  unfold bkV
  have HR : Hid (isB n z = (decide (0 ≤ z) && decide (z ≤ 6) && decide (0 ≤ n) && decide (n ≤ 1048575))) := rfl
  generalize isB n z = R at *
  cases h1 : decide (0 ≤ z) <;> cases h2 : decide (z ≤ 6) <;> cases h3 : decide (0 ≤ n) <;> cases h4 : decide (n ≤ 1048575) <;>
    (rw [h1, h2, h3, h4] at HR
     go_enter Tryd.func37, Tryd.ntmps37
     go_wp2
     go_ret
     exact ⟨by rw [HR.out]; rfl, HB.out⟩)
def blkN (x : Int) : Int := x / 16
def blkM (x : Int) : Bool := bits BinOp.and .i64 x 8 != 0
def blkZ (x : Int) : Int := x % 8
theorem uintN_range (m : Mg) (n : Int) : 0 ≤ uintN m n ∧ uintN m n ≤ 16777215 := by
  unfold uintN
  split
  · omega
  · cases valsL m.opts n with
    | nil => simp [frsN]
    | cons s l =>
      rw [frsN]
      split
      · omega
      · rename_i h
        have h1 := beN_lt s 0 s.size
        have h2 := Nat.pow_le_pow_right (show 0 < 256 by decide) (show s.size ≤ 3 by omega)
        omega
def okB (x : Int) : Bool := isB (blkN x) (blkZ x)
/-- what Block answers -/
def blockE (m : Mg) : Int := if uintE m 23 ≠ 0 then uintE m 23 else if okB (uintN m 23) then 0 else 3
def blockV (m : Mg) : Value := if blockE m = 0 then bkV (blkN (uintN m 23)) (blkM (uintN m 23)) (blkZ (uintN m 23)) else bkV 0 false 0

set_option maxHeartbeats 4000000 in
set_option maxRecDepth 100000 in
theorem block_any (m : Mg) (ao : Option Addr) (co : Nat) (w : World) (hl : OptsIn w ao m.opts) :
    Calls Tryd.prog 12 #[mgV m ao co] w fun e w' => e = .returned (.tuple #[blockV m, .int .i64 (blockE m)]) ∧ Below w.heap.size w w' := by
  have C : Hid (∀ W, Below w.heap.size w W → Calls Tryd.prog 11 #[mgV m ao co, .int .i64 23] W fun e w' => e = .returned (.tuple #[.int .i64 (uintN m 23), .int .i64 (uintE m 23)]) ∧ Below W.heap.size W w') := fun W h => uint_any m ao co 23 W (hl.below h)
  have HV : Hid (blockV m = if blockE m = 0 then bkV (blkN (uintN m 23)) (blkM (uintN m 23)) (blkZ (uintN m 23)) else bkV 0 false 0) := rfl
  have HE : Hid (blockE m = if uintE m 23 ≠ 0 then uintE m 23 else if okB (uintN m 23) then 0 else 3) := rfl
  have hr := uintN_range m 23
  clear hl
  generalize blockV m = BV at *
  generalize blockE m = BE at *
  generalize uintN m 23 = x at *
  generalize uintE m 23 = E at *
  obtain ⟨k, c, i, t, l, p⟩ := m
  simp only [mgV] at C ⊢
  have HB0 := hide (((Below.refl w.heap.size w).alloc (Nat.le_refl _) (.cells #[.int .i64 k, .int .i64 c, .int .i64 i, .string t, .slice ao l.length co, .string p] 24)).alloc (by simp) (.cells #[.int .i64 0, .bool false, .int .i64 0] 34))
  have HX1 : Hid (((w.alloc (.cells #[.int .i64 k, .int .i64 c, .int .i64 i, .string t, .slice ao l.length co, .string p] 24)).alloc (.cells #[.int .i64 0, .bool false, .int .i64 0] 34)).heap[w.heap.size + 1]? = some (.cells #[.int .i64 0, .bool false, .int .i64 0] 34 (0, 0))) := oblk1 (by simp)
  go_enter Tryd.func12, Tryd.ntmps12
  go_wp2_with fail
  refine (C.out _ HB0.out).mono ?_
  rintro e w1 ⟨rfl, hb1⟩
  have HB1 := hide (below_step HB0.out hb1)
  have hx1 := (hb1.block _ (Array.getElem?_eq_some_iff.1 HX1.out).1).trans HX1.out
  have q1 : ∀ o, w1.cell? ⟨w.heap.size + 1, o, none⟩ = (#[.int .i64 0, .bool false, .int .i64 0] : Array Value)[o]? := fun o => Lib.cell_of_heap hx1 o
  have f1 : ∀ o, w1.frozen? ⟨w.heap.size + 1, o, none⟩ = false := fun o => Lib.frozen_of_heap hx1 o
  have hlt1 : w.heap.size + 1 < w1.heap.size := (Array.getElem?_eq_some_iff.1 hx1).1
  replace HX1 := hide hx1
  clear hb1 hx1 C HB0
  by_cases hE : E = 0
  · have hE' : (E != 0) = false := by simp [hE]
    subst hE
    have HE2 : Hid (BE = if okB x = true then 0 else 3) := HE.out
    clear HE
    have HX2 : Hid ((w1.alloc (.cells #[.int .i64 (x / 16), .bool (bits BinOp.and .i64 x 8 != 0), .int .i64 (x % 8)] 34)).heap[w1.heap.size]? = some (.cells #[.int .i64 (x / 16), .bool (bits BinOp.and .i64 x 8 != 0), .int .i64 (x % 8)] 34 (0, 0))) := Go.heap_alloc_new w1 _
    have HX3 : Hid ((w1.alloc (.cells #[.int .i64 (x / 16), .bool (bits BinOp.and .i64 x 8 != 0), .int .i64 (x % 8)] 34)).heap[w.heap.size + 1]? = some (.cells #[.int .i64 0, .bool false, .int .i64 0] 34 (0, 0))) := by show _ = _; rw [Below.heap_alloc _ _ _ hlt1]; exact HX1.out
    have HB2 := hide (HB1.out.alloc HB1.out.size (.cells #[.int .i64 (x / 16), .bool (bits BinOp.and .i64 x 8 != 0), .int .i64 (x % 8)] 34))
    clear HX1 q1 f1
    go_wp2_with fail
    refine (isBlock_any (x / 16) (bits BinOp.and .i64 x 8 != 0) (x % 8) _).mono ?_
    rintro e w2 ⟨rfl, hb2⟩
    have HB3 := hide (below_step HB2.out hb2)
    have hx2 := (hb2.block _ (Array.getElem?_eq_some_iff.1 HX2.out).1).trans HX2.out
    have hx3 := (hb2.block _ (Array.getElem?_eq_some_iff.1 HX3.out).1).trans HX3.out
    have q2 : ∀ o, w2.cell? ⟨w1.heap.size, o, none⟩ = (#[.int .i64 (x / 16), .bool (bits BinOp.and .i64 x 8 != 0), .int .i64 (x % 8)] : Array Value)[o]? := fun o => Lib.cell_of_heap hx2 o
    have q3 : ∀ o, w2.cell? ⟨w.heap.size + 1, o, none⟩ = (#[.int .i64 0, .bool false, .int .i64 0] : Array Value)[o]? := fun o => Lib.cell_of_heap hx3 o
    have f3 : ∀ o, w2.frozen? ⟨w.heap.size + 1, o, none⟩ = false := fun o => Lib.frozen_of_heap hx3 o
    have hne : w1.heap.size ≠ w.heap.size + 1 := by omega
    clear hb2 hx2 hx3 HX2 HX3 HB2 HB1
    have HOB : Hid (okB x = isB (x / 16) (x % 8)) := rfl
    have HV1 : Hid (BV = if BE = 0 then .agg #[.int .i64 (x / 16), .bool (bits BinOp.and .i64 x 8 != 0), .int .i64 (x % 8)] else bkV 0 false 0) := HV.out
    clear HV
    generalize isB (x / 16) (x % 8) = OB at *
    generalize okB x = OX at *
    generalize x / 16 = X1 at *
    generalize x % 8 = X3 at *
    generalize (bits BinOp.and .i64 x 8 != 0) = X2 at *
    cases OB with
    | true =>
      have HE3 : Hid (BE = 0) := by have := HE2.out; rw [HOB.out, if_pos rfl] at this; exact this
      have HV3 : Hid (BV = .agg #[.int .i64 X1, .bool X2, .int .i64 X3]) := by have := HV1.out; rw [if_pos HE3.out] at this; exact this
      clear HE2 HV1 HOB
      have HBE := hide (((HB3.out.setCell (p := ⟨w.heap.size + 1, 0, none⟩) (by simp) (.int .i64 X1)).setCell (p := ⟨w.heap.size + 1, 1, none⟩) (by simp) (.bool X2)).setCell (p := ⟨w.heap.size + 1, 2, none⟩) (by simp) (.int .i64 X3))
      go_wp2
      exact bodyPost_ret (v := .tuple #[.agg #[.int .i64 X1, .bool X2, .int .i64 X3], .int .i64 0]) (by simp [results, Tryd.results12, go_sem, World.cell?_setCell_same, q3]) rfl ⟨by rw [HV3.out, HE3.out], HBE.out⟩
    | false =>
      have HE3 : Hid (BE = 3) := by have := HE2.out; rw [HOB.out, if_neg (by decide)] at this; exact this
      have HV3 : Hid (BV = bkV 0 false 0) := by have := HV1.out; rw [if_neg (by rw [HE3.out]; decide)] at this; exact this
      clear HE2 HV1 HOB
      have HBE := hide (((HB3.out.setCell (p := ⟨w.heap.size + 1, 0, none⟩) (by simp) (.int .i64 0)).setCell (p := ⟨w.heap.size + 1, 1, none⟩) (by simp) (.bool false)).setCell (p := ⟨w.heap.size + 1, 2, none⟩) (by simp) (.int .i64 0))
      go_wp2
      exact bodyPost_ret (v := .tuple #[.agg #[.int .i64 0, .bool false, .int .i64 0], .int .i64 3]) (by simp [results, Tryd.results12, go_sem, World.cell?_setCell_same, q3]) rfl ⟨by rw [HV3.out, HE3.out]; rfl, HBE.out⟩
  · have hE' : (E != 0) = true := by simp [hE]
    have HE2 : Hid (BE = E) := by have := HE.out; rw [if_pos hE] at this; exact this
    have HV2 : Hid (BV = bkV 0 false 0) := by have := HV.out; rw [if_neg (by rw [HE2.out]; exact hE)] at this; exact this
    clear HE HV hE
    have HBE := hide (((HB1.out.setCell (p := ⟨w.heap.size + 1, 0, none⟩) (by simp) (.int .i64 0)).setCell (p := ⟨w.heap.size + 1, 1, none⟩) (by simp) (.bool false)).setCell (p := ⟨w.heap.size + 1, 2, none⟩) (by simp) (.int .i64 0))
    go_wp2
    exact bodyPost_ret (v := .tuple #[.agg #[.int .i64 0, .bool false, .int .i64 0], .int .i64 E]) (by simp [results, Tryd.results12, go_sem, World.cell?_setCell_same, q1]) rfl ⟨by rw [HV2.out, HE2.out]; rfl, HBE.out⟩
end Go.Proofs.YtgmjdelgocbcaacDoor
