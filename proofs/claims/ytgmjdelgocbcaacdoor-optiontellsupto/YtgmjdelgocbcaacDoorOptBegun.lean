/-
  dragomanlaw.optionBegun: true.
-/
import Derived.Test.YtgmjdelgocbcaacDoorMsgEq
import Derived.Test.YtgmjdelgocbcaacDoorTopicMore
import Derived.Test.YtgmjdelgocbcaacDoorOptWithBlock
import Derived.Test.YtgmjdelgocbcaacDoorOptBlock
import Derived.Test.YtgmjdelgocbcaacDoorOptWithPath
namespace Go.Proofs.YtgmjdelgocbcaacDoor
open Go.RowKit Go.PlainAid

def getP : Mg := ⟨0, 1, 258, ⟨#[116]⟩, [(6, ⟨#[]⟩), (11, ⟨#[120]⟩), (11, ⟨#[121]⟩), (11, ⟨#[122]⟩)], ⟨#[]⟩⟩
def getU : Mg := ⟨0, 1, 258, ⟨#[116]⟩, [(6, ⟨#[1, 44]⟩), (11, ⟨#[97]⟩), (11, ⟨#[98]⟩)], ⟨#[]⟩⟩
def getB : Mg := ⟨0, 1, 258, ⟨#[116]⟩, [(6, ⟨#[]⟩), (11, ⟨#[97]⟩), (11, ⟨#[98]⟩), (23, ⟨#[58]⟩)], ⟨#[]⟩⟩
theorem g1 : pathS getMg = ⟨#[97, 47, 98]⟩ := by decide +kernel
theorem g1e : pathE getMg = 0 := by decide +kernel
theorem g2 : wpM getMg ⟨#[120, 47, 121, 47, 122]⟩ = getP := by kernel_rfl
theorem g2e : wpE getMg ⟨#[120, 47, 121, 47, 122]⟩ = 0 := by decide +kernel
theorem g3 : uintN getMg 6 = 0 := by decide +kernel
theorem g3e : uintE getMg 6 = 0 := by decide +kernel
theorem g4 : wuM getMg 6 300 = getU := by kernel_rfl
theorem g4e : wuE getMg 6 300 = 0 := by decide +kernel
theorem g5 : uintN getU 6 = 300 := by decide +kernel
theorem g5e : uintE getU 6 = 0 := by decide +kernel
theorem g6 : wbM getMg 3 true 2 = getB := by kernel_rfl
theorem g6e : wbE getMg 3 true 2 = 0 := by decide +kernel
theorem g7 : blockV getB = bkV 3 true 2 := by kernel_rfl
theorem g7e : blockE getB = 0 := by decide +kernel
theorem getP_v (ao : Option Addr) (co : Nat) : mgV getP ao co = .agg #[.int .i64 0, .int .i64 1, .int .i64 258, .string ⟨#[116]⟩, .slice ao 4 co, .string ⟨#[]⟩] := rfl
theorem getU_v (ao : Option Addr) (co : Nat) : mgV getU ao co = .agg #[.int .i64 0, .int .i64 1, .int .i64 258, .string ⟨#[116]⟩, .slice ao 3 co, .string ⟨#[]⟩] := rfl
theorem getB_v (ao : Option Addr) (co : Nat) : mgV getB ao co = .agg #[.int .i64 0, .int .i64 1, .int .i64 258, .string ⟨#[116]⟩, .slice ao 4 co, .string ⟨#[]⟩] := rfl
theorem gc1 (W : World) (ao : Option Addr) (co : Nat) (hm : Max W) (h : OptsIn W ao getMg.opts) : Calls Tryd.prog 9 #[mgV getMg ao co] W fun e w' => e = .returned (.tuple #[.string ⟨#[97, 47, 98]⟩, .int .i64 0]) ∧ Below W.heap.size W w' := by
  obtain ⟨hz, mx, hc⟩ := hm
  have := path_any getMg ao co mx W hc hz h
  rwa [g1, g1e] at this
theorem gc2 (W : World) (ao : Option Addr) (co : Nat) (hm : Max W) (h : OptsIn W ao getMg.opts) : Calls Tryd.prog 10 #[mgV getMg ao co, .string ⟨#[120, 47, 121, 47, 122]⟩] W (NewW W getP 0) := by
  obtain ⟨hz, mx, hc⟩ := hm
  have := withPath_any getMg ao co ⟨#[120, 47, 121, 47, 122]⟩ mx W hc hz h
  rwa [g2, g2e] at this
theorem gc3 (W : World) (ao : Option Addr) (co : Nat) (h : OptsIn W ao getMg.opts) : Calls Tryd.prog 11 #[mgV getMg ao co, .int .i64 6] W fun e w' => e = .returned (.tuple #[.int .i64 0, .int .i64 0]) ∧ Below W.heap.size W w' := by
  have := uint_any getMg ao co 6 W h
  rwa [g3, g3e] at this
theorem gc4 (W : World) (ao : Option Addr) (co : Nat) (h : OptsIn W ao getMg.opts) : Calls Tryd.prog 7 #[mgV getMg ao co, .int .i64 6, .int .i64 300] W (NewW W getU 0) := by
  have := withUint_any getMg ao co 6 300 W h
  rwa [g4, g4e] at this
theorem gc5 (W : World) (ao : Option Addr) (co : Nat) (h : OptsIn W ao getU.opts) : Calls Tryd.prog 11 #[mgV getU ao co, .int .i64 6] W fun e w' => e = .returned (.tuple #[.int .i64 300, .int .i64 0]) ∧ Below W.heap.size W w' := by
  have := uint_any getU ao co 6 W h
  rwa [g5, g5e] at this
theorem gc6 (W : World) (ao : Option Addr) (co : Nat) (h : OptsIn W ao getMg.opts) : Calls Tryd.prog 13 #[mgV getMg ao co, .agg #[.int .i64 3, .bool true, .int .i64 2]] W (NewW W getB 0) := by
  have := withBlock_any getMg ao co 3 true 2 W h
  rwa [g6, g6e] at this
theorem gc7 (W : World) (ao : Option Addr) (co : Nat) (h : OptsIn W ao getB.opts) : Calls Tryd.prog 12 #[mgV getB ao co] W fun e w' => e = .returned (.tuple #[.agg #[.int .i64 3, .bool true, .int .i64 2], .int .i64 0]) ∧ Below W.heap.size W w' := by
  have := block_any getB ao co W h
  rwa [g7, g7e] at this
/-- boxes that stay -/
theorem box_step {W w' : World} {b : Nat} {o : Obj} (h : W.heap[b]? = some o) (hb : Below W.heap.size W w') : w'.heap[b]? = some o := (hb.block _ (Array.getElem?_eq_some_iff.1 h).1).trans h
theorem box_lt {W : World} {b : Nat} {o : Obj} (h : W.heap[b]? = some o) : b < W.heap.size := (Array.getElem?_eq_some_iff.1 h).1

set_option maxHeartbeats 4000000 in
set_option maxRecDepth 100000 in
theorem optionBegun_yes (w : World) (hm : Max w) : Calls Tryd.prog 6 #[] w fun e w' => e = .returned (.bool true) ∧ Below w.heap.size w w' := by
  have HM := hide hm
  clear hm
  have P0 := hide get_any'
  have P1 := hide gc1
  have P2 := hide gc2
  have P3 := hide gc3
  have P4 := hide gc4
  have P5 := hide gc5
  have P6 := hide gc6
  have P7 := hide gc7
  simp only [get_v, getU_v, getB_v] at P1 P2 P3 P4 P5 P6 P7
  go_enter Tryd.func6, Tryd.ntmps6
  go_wp2_with fail
  refine (P0.out _).mono ?_
  rintro e w1 ⟨ga, gc, rfl, hg1, hb1⟩
  rw [get_v]
  have HG := hide hg1
  have HB1 := hide hb1
  clear hg1 hb1
  go_wp2_with fail
  refine (P1.out _ _ _ (HM.out.below HB1.out) HG.out).mono ?_
  rintro e w2 ⟨rfl, hb2⟩
  have HB2 := hide (below_step HB1.out hb2)
  clear hb2 HB1 HG
  go_wp2_with fail
  refine (P0.out _).mono ?_
  rintro e w3 ⟨ga3, gc3, rfl, hg3, hb3⟩
  rw [get_v]
  have HG := hide hg3
  have HB3 := hide (below_step HB2.out hb3)
  clear hg3 hb3 HB2
  go_wp2_with fail
  refine (P2.out _ _ _ (HM.out.below HB3.out) HG.out).mono ?_
  rintro e w4 ⟨pa, pc, rfl, _, _, hb4⟩
  rw [getP_v]
  have HB4 := hide (below_step HB3.out hb4)
  clear hb4 HB3 HG
  go_upto_region 3 with fail
  have HX3 : Hid ((w4.alloc (.cells #[.int .i64 0, .int .i64 1, .int .i64 258, .string ⟨#[116]⟩, .slice pa 4 pc, .string ⟨#[]⟩] 24)).heap[w4.heap.size]? = some (.cells #[.int .i64 0, .int .i64 1, .int .i64 258, .string ⟨#[116]⟩, .slice pa 4 pc, .string ⟨#[]⟩] 24 (0, 0))) := Go.heap_alloc_new w4 _
  have HB5 := hide (HB4.out.alloc HB4.out.size (.cells #[.int .i64 0, .int .i64 1, .int .i64 258, .string ⟨#[116]⟩, .slice pa 4 pc, .string ⟨#[]⟩] 24))
  clear HB4
  revert HX3 HB5
  generalize w4.alloc (.cells #[.int .i64 0, .int .i64 1, .int .i64 258, .string ⟨#[116]⟩, .slice pa 4 pc, .string ⟨#[]⟩] 24) = W5
  intro HX3 HB5
  generalize w4.heap.size = b3 at *
  go_wp2_with fail
  refine (P0.out _).mono ?_
  rintro e w6 ⟨ga6, gc6, rfl, hg6, hb6⟩
  rw [get_v]
  have HG := hide hg6
  have HB6 := hide (below_step HB5.out hb6)
  have HX3 := hide (box_step HX3.out hb6)
  clear hg6 hb6 HB5
  go_wp2_with fail
  refine (P3.out _ _ _ HG.out).mono ?_
  rintro e w7 ⟨rfl, hb7⟩
  have HB7 := hide (below_step HB6.out hb7)
  have HX3 := hide (box_step HX3.out hb7)
  clear hb7 HB6 HG
  go_wp2_with fail
  refine (P0.out _).mono ?_
  rintro e w8 ⟨ga8, gc8, rfl, hg8, hb8⟩
  rw [get_v]
  have HG := hide hg8
  have HB8 := hide (below_step HB7.out hb8)
  have HX3 := hide (box_step HX3.out hb8)
  clear hg8 hb8 HB7
  go_wp2_with fail
  refine (P4.out _ _ _ HG.out).mono ?_
  rintro e w9 ⟨ua, uc, rfl, hu9, _, hb9⟩
  rw [getU_v]
  have HB9 := hide (below_step HB8.out hb9)
  have HX3 := hide (box_step HX3.out hb9)
  have HU9 := hide hu9
  clear hb9 HB8 HG hu9
  go_upto_region 5 with fail
  have q7 : ∀ o, (w9.alloc (.cells #[.int .i64 0, .int .i64 1, .int .i64 258, .string ⟨#[116]⟩, .slice ua 3 uc, .string ⟨#[]⟩] 24)).cell? ⟨w9.heap.size, o, none⟩ = (#[.int .i64 0, .int .i64 1, .int .i64 258, .string ⟨#[116]⟩, .slice ua 3 uc, .string ⟨#[]⟩] : Array Value)[o]? := fun o => Lib.cell_of_heap (Go.heap_alloc_new w9 _) o
  have HB10 := hide (HB9.out.alloc HB9.out.size (.cells #[.int .i64 0, .int .i64 1, .int .i64 258, .string ⟨#[116]⟩, .slice ua 3 uc, .string ⟨#[]⟩] 24))
  have HU10 := hide (HU9.out.alloc (.cells #[.int .i64 0, .int .i64 1, .int .i64 258, .string ⟨#[116]⟩, .slice ua 3 uc, .string ⟨#[]⟩] 24))
  have HX3 := hide (box_step HX3.out ((Below.refl _ w9).alloc (Nat.le_refl _) (.cells #[.int .i64 0, .int .i64 1, .int .i64 258, .string ⟨#[116]⟩, .slice ua 3 uc, .string ⟨#[]⟩] 24)))
  clear HB9 HU9
  revert q7 HB10 HU10 HX3
  generalize w9.alloc (.cells #[.int .i64 0, .int .i64 1, .int .i64 258, .string ⟨#[116]⟩, .slice ua 3 uc, .string ⟨#[]⟩] 24) = W10
  intro q7 HB10 HU10 HX3
  go_wp2_with fail
  refine (P5.out _ _ _ HU10.out).mono ?_
  rintro e w11 ⟨rfl, hb11⟩
  have HB11 := hide (below_step HB10.out hb11)
  have HX3 := hide (box_step HX3.out hb11)
  clear hb11 HB10 HU10 q7
  go_wp2_with fail
  refine (P0.out _).mono ?_
  rintro e w12 ⟨ga12, gc12, rfl, hg12, hb12⟩
  rw [get_v]
  have HG := hide hg12
  have HB12 := hide (below_step HB11.out hb12)
  have HX3 := hide (box_step HX3.out hb12)
  clear hg12 hb12 HB11
  go_wp2_with fail
  refine (P6.out _ _ _ HG.out).mono ?_
  rintro e w13 ⟨ba, bc, rfl, hu13, _, hb13⟩
  rw [getB_v]
  have HB13 := hide (below_step HB12.out hb13)
  have HX3 := hide (box_step HX3.out hb13)
  have HU13 := hide hu13
  clear hb13 HB12 HG hu13
  go_upto_region 7 with fail
  have q7 : ∀ o, (w13.alloc (.cells #[.int .i64 0, .int .i64 1, .int .i64 258, .string ⟨#[116]⟩, .slice ba 4 bc, .string ⟨#[]⟩] 24)).cell? ⟨w13.heap.size, o, none⟩ = (#[.int .i64 0, .int .i64 1, .int .i64 258, .string ⟨#[116]⟩, .slice ba 4 bc, .string ⟨#[]⟩] : Array Value)[o]? := fun o => Lib.cell_of_heap (Go.heap_alloc_new w13 _) o
  have HB14 := hide (HB13.out.alloc HB13.out.size (.cells #[.int .i64 0, .int .i64 1, .int .i64 258, .string ⟨#[116]⟩, .slice ba 4 bc, .string ⟨#[]⟩] 24))
  have HU14 := hide (HU13.out.alloc (.cells #[.int .i64 0, .int .i64 1, .int .i64 258, .string ⟨#[116]⟩, .slice ba 4 bc, .string ⟨#[]⟩] 24))
  have HX3 := hide (box_step HX3.out ((Below.refl _ w13).alloc (Nat.le_refl _) (.cells #[.int .i64 0, .int .i64 1, .int .i64 258, .string ⟨#[116]⟩, .slice ba 4 bc, .string ⟨#[]⟩] 24)))
  clear HB13 HU13
  revert q7 HB14 HU14 HX3
  generalize w13.alloc (.cells #[.int .i64 0, .int .i64 1, .int .i64 258, .string ⟨#[116]⟩, .slice ba 4 bc, .string ⟨#[]⟩] 24) = W14
  intro q7 HB14 HU14 HX3
  go_wp2_with fail
  refine (P7.out _ _ _ HU14.out).mono ?_
  rintro e w15 ⟨rfl, hb15⟩
  have HB15 := hide (below_step HB14.out hb15)
  have HX3 := hide (box_step HX3.out hb15)
  clear hb15 HB14 HU14 q7
  have q3 : w15.cell? ⟨b3, 4, none⟩ = some (.slice pa 4 pc) := Lib.cell_of_heap HX3.out 4
  have hlt3 := box_lt HX3.out
  have hne3 : b3 ≠ w15.heap.size := by omega
  have HB16 := hide (HB15.out.alloc HB15.out.size (.cells #[.int .i64 3, .bool true, .int .i64 2] 34))
  go_wp2_with fail
  go_ret
  exact ⟨rfl, HB16.out⟩
end Go.Proofs.YtgmjdelgocbcaacDoor
