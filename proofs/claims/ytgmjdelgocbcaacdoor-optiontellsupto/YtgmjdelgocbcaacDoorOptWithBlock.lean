/-
  option.WithBlock: what it answers.
-/
import Derived.Test.YtgmjdelgocbcaacDoorOptBlock
import Derived.Test.YtgmjdelgocbcaacDoorOptWithUint
namespace Go.Proofs.YtgmjdelgocbcaacDoor
open Go.RowKit Go.PlainAid

def blkX (n : Int) (more : Bool) (z : Int) : Int := n * 16 + z + (if more then 8 else 0)
def wbM (m : Mg) (n : Int) (more : Bool) (z : Int) : Mg := if chkM m ≠ 0 then zMg else if isB n z = false then zMg else wuM m 23 (blkX n more z)
def wbE (m : Mg) (n : Int) (more : Bool) (z : Int) : Int := if chkM m ≠ 0 then chkM m else if isB n z = false then 3 else wuE m 23 (blkX n more z)

/-- three boxes stay -/
structure U3 (w : World) (o0 o1 o2 : Obj) (W : World) : Prop where
  bel : Below w.heap.size w W
  x0 : W.heap[w.heap.size]? = some o0
  x1 : W.heap[w.heap.size + 1]? = some o1
  x2 : W.heap[w.heap.size + 1 + 1]? = some o2
theorem U3.step {w : World} {o0 o1 o2 : Obj} {W W' : World} (h : U3 w o0 o1 o2 W) (hb : Below W.heap.size W W') : U3 w o0 o1 o2 W' :=
  ⟨h.bel.trans (hb.mono h.bel.size), (hb.block _ (Array.getElem?_eq_some_iff.1 h.x0).1).trans h.x0, (hb.block _ (Array.getElem?_eq_some_iff.1 h.x1).1).trans h.x1, (hb.block _ (Array.getElem?_eq_some_iff.1 h.x2).1).trans h.x2⟩
theorem U3.drew {w : World} {o0 o1 o2 : Obj} {W : World} (h : U3 w o0 o1 o2 W) : U3 w o0 o1 o2 W.drew := ⟨h.bel.drew, h.x0, h.x1, h.x2⟩
theorem U3.lt {w : World} {o0 o1 o2 : Obj} {W : World} (h : U3 w o0 o1 o2 W) : w.heap.size + 1 + 1 < W.heap.size := (Array.getElem?_eq_some_iff.1 h.x2).1

set_option maxHeartbeats 8000000 in
set_option maxRecDepth 100000 in
theorem withBlock_any (m : Mg) (ao : Option Addr) (co : Nat) (n : Int) (more : Bool) (z : Int) (w : World) (hl : OptsIn w ao m.opts) :
    Calls Tryd.prog 13 #[mgV m ao co, bkV n more z] w (NewW w (wbM m n more z) (wbE m n more z)) := by
  have C : Hid (∀ W, Below w.heap.size w W → Calls Tryd.prog 27 #[mgV m ao co] W fun e w' => e = .returned (.int .i64 (chkM m)) ∧ Below W.heap.size W w') := fun W h => mcheck_any m ao co W (hl.below h)
  have CW : Hid (∀ x W, Below w.heap.size w W → Calls Tryd.prog 7 #[mgV m ao co, .int .i64 23, .int .i64 x] W (NewW W (wuM m 23 x) (wuE m 23 x))) := fun x W hW => withUint_any m ao co 23 x W (hl.below hW)
  have CI := hide (isBlock_any n more z)
  have HM : Hid (wbM m n more z = if chkM m ≠ 0 then zMg else if isB n z = false then zMg else wuM m 23 (blkX n more z)) := rfl
  have HE : Hid (wbE m n more z = if chkM m ≠ 0 then chkM m else if isB n z = false then 3 else wuE m 23 (blkX n more z)) := rfl
  have HR : Hid (isB n z = true → (0 ≤ n ∧ n ≤ 1048575) ∧ 0 ≤ z ∧ z ≤ 6) := fun h => by
    simp only [isB, Bool.and_eq_true, decide_eq_true_eq] at h
    omega
  clear hl
  generalize wbM m n more z = UM at *
  generalize wbE m n more z = UE at *
  generalize isB n z = OB at *
  generalize hwu : wuM m 23 = WU at *
  generalize hwe : wuE m 23 = WE at *
  generalize chkM m = E at *
  clear hwu hwe
  obtain ⟨k, c, i, t, l, p⟩ := m
  simp only [mgV, bkV] at C CW CI ⊢
  have HU0 : Hid (U3 w (.cells #[.int .i64 k, .int .i64 c, .int .i64 i, .string t, .slice ao l.length co, .string p] 24 (0, 0)) (.cells #[.int .i64 n, .bool more, .int .i64 z] 34 (0, 0)) (.cells #[.int .i64 0, .int .i64 0, .int .i64 0, .string ⟨#[]⟩, .slice none 0 0, .string ⟨#[]⟩] 24 (0, 0)) (((w.alloc (.cells #[.int .i64 k, .int .i64 c, .int .i64 i, .string t, .slice ao l.length co, .string p] 24)).alloc (.cells #[.int .i64 n, .bool more, .int .i64 z] 34)).alloc (.cells #[.int .i64 0, .int .i64 0, .int .i64 0, .string ⟨#[]⟩, .slice none 0 0, .string ⟨#[]⟩] 24))) := by
    refine ⟨(((Below.refl w.heap.size w).alloc (Nat.le_refl _) _).alloc (by simp) _).alloc (by simp; omega) _, ?_, ?_, ?_⟩
    · rw [Below.heap_alloc _ _ _ (by simp; omega), Below.heap_alloc _ _ _ (by simp)]; exact Go.heap_alloc_new w _
    · rw [Below.heap_alloc _ _ _ (by simp)]; exact oblk1 (by simp)
    · exact oblk1 (by simp)
  go_enter Tryd.func13, Tryd.ntmps13
  go_upto_region 1 with fail
  revert HU0
  generalize ((w.alloc (.cells #[.int .i64 k, .int .i64 c, .int .i64 i, .string t, .slice ao l.length co, .string p] 24)).alloc (.cells #[.int .i64 n, .bool more, .int .i64 z] 34)).alloc (.cells #[.int .i64 0, .int .i64 0, .int .i64 0, .string ⟨#[]⟩, .slice none 0 0, .string ⟨#[]⟩] 24) = W0
  intro HU0
  have q0 : ∀ o, W0.cell? ⟨w.heap.size, o, none⟩ = (#[.int .i64 k, .int .i64 c, .int .i64 i, .string t, .slice ao l.length co, .string p] : Array Value)[o]? := fun o => Lib.cell_of_heap HU0.out.x0 o
  have r0 : ∀ o, W0.cell? ⟨w.heap.size + 1, o, none⟩ = (#[.int .i64 n, .bool more, .int .i64 z] : Array Value)[o]? := fun o => Lib.cell_of_heap HU0.out.x1 o
  have s0 : ∀ o, W0.cell? ⟨w.heap.size + 1 + 1, o, none⟩ = (#[.int .i64 0, .int .i64 0, .int .i64 0, .string ⟨#[]⟩, .slice none 0 0, .string ⟨#[]⟩] : Array Value)[o]? := fun o => Lib.cell_of_heap HU0.out.x2 o
  have f0 : ∀ o, W0.frozen? ⟨w.heap.size + 1 + 1, o, none⟩ = false := fun o => Lib.frozen_of_heap HU0.out.x2 o
  go_wp2_with fail
  refine (C.out _ HU0.out.bel).mono ?_
  rintro e w1 ⟨rfl, hb1⟩
  have HU1 := hide (HU0.out.step hb1)
  clear q0 r0 s0 f0 HU0 hb1 C
  have q1 : ∀ o, w1.cell? ⟨w.heap.size, o, none⟩ = (#[.int .i64 k, .int .i64 c, .int .i64 i, .string t, .slice ao l.length co, .string p] : Array Value)[o]? := fun o => Lib.cell_of_heap HU1.out.x0 o
  have r1 : ∀ o, w1.cell? ⟨w.heap.size + 1, o, none⟩ = (#[.int .i64 n, .bool more, .int .i64 z] : Array Value)[o]? := fun o => Lib.cell_of_heap HU1.out.x1 o
  have s1 : ∀ o, w1.cell? ⟨w.heap.size + 1 + 1, o, none⟩ = (#[.int .i64 0, .int .i64 0, .int .i64 0, .string ⟨#[]⟩, .slice none 0 0, .string ⟨#[]⟩] : Array Value)[o]? := fun o => Lib.cell_of_heap HU1.out.x2 o
  have f1 : ∀ o, w1.frozen? ⟨w.heap.size + 1 + 1, o, none⟩ = false := fun o => Lib.frozen_of_heap HU1.out.x2 o
  by_cases hE : E = 0
  · have hE' : (E != 0) = false := by simp [hE]
    have HE1 : Hid (UE = if OB = false then 3 else WE (blkX n more z)) := by have := HE.out; rw [if_neg (by simp [hE])] at this; exact this
    have HM1 : Hid (UM = if OB = false then zMg else WU (blkX n more z)) := by have := HM.out; rw [if_neg (by simp [hE])] at this; exact this
    subst hE
    clear HE HM
    go_wp2_with fail
    refine (CI.out _).mono ?_
    rintro e w2 ⟨rfl, hb2⟩
    have HU2 := hide (HU1.out.step hb2)
    clear q1 r1 s1 f1 HU1 hb2 CI
    have q2 : ∀ o, w2.cell? ⟨w.heap.size, o, none⟩ = (#[.int .i64 k, .int .i64 c, .int .i64 i, .string t, .slice ao l.length co, .string p] : Array Value)[o]? := fun o => Lib.cell_of_heap HU2.out.x0 o
    have r2 : ∀ o, w2.cell? ⟨w.heap.size + 1, o, none⟩ = (#[.int .i64 n, .bool more, .int .i64 z] : Array Value)[o]? := fun o => Lib.cell_of_heap HU2.out.x1 o
    have s2 : ∀ o, w2.cell? ⟨w.heap.size + 1 + 1, o, none⟩ = (#[.int .i64 0, .int .i64 0, .int .i64 0, .string ⟨#[]⟩, .slice none 0 0, .string ⟨#[]⟩] : Array Value)[o]? := fun o => Lib.cell_of_heap HU2.out.x2 o
    have f2 : ∀ o, w2.frozen? ⟨w.heap.size + 1 + 1, o, none⟩ = false := fun o => Lib.frozen_of_heap HU2.out.x2 o
    cases OB with
    | false =>
      have HE2 : Hid (UE = 3) := HE1.out
      have HM2 : Hid (UM = zMg) := HM1.out
      clear HE1 HM1 HR CW
      have HBE := hide (set6_below HU2.out.bel (show w.heap.size ≤ w.heap.size + 1 + 1 by omega) (.int .i64 0) (.int .i64 0) (.int .i64 0) (.string ⟨#[]⟩) (.slice none 0 0) (.string ⟨#[]⟩))
      go_wp2
      exact bodyPost_ret (v := .tuple #[.agg #[.int .i64 0, .int .i64 0, .int .i64 0, .string ⟨#[]⟩, .slice none 0 0, .string ⟨#[]⟩], .int .i64 3]) (by simp [results, Tryd.results13, go_sem, World.cell?_setCell_same, s2]) rfl ⟨none, 0, by rw [HM2.out, HE2.out]; rfl, by rw [HM2.out]; exact .inl rfl, .inl (by rw [HM2.out]; rfl), HBE.out⟩
    | true =>
      have hr := HR.out rfl
      have HE2 : Hid (UE = WE (blkX n more z)) := HE1.out
      have HM2 : Hid (UM = WU (blkX n more z)) := HM1.out
      clear HE1 HM1 HR
      cases more with
      | true =>
        have HX : Hid (blkX n true z = n * 16 + z + 8) := by show _ = _; simp [blkX]
        rw [HX.out] at HE2 HM2
        generalize hWM : WU (n * 16 + z + 8) = D at *
        generalize hWE : WE (n * 16 + z + 8) = DE at *
        have CW2 : Hid (∀ W, Below w.heap.size w W → Calls Tryd.prog 7 #[.agg #[.int .i64 k, .int .i64 c, .int .i64 i, .string t, .slice ao l.length co, .string p], .int .i64 23, .int .i64 (n * 16 + z + 8)] W (NewW W D DE)) := fun W hW => by rw [← hWM, ← hWE]; exact CW.out _ W hW
        clear CW hWM hWE HX
        obtain ⟨k2, c2, i2, t2, l2, p2⟩ := D
        have CW3 : Hid (∀ W, Below w.heap.size w W → Calls Tryd.prog 7 #[.agg #[.int .i64 k, .int .i64 c, .int .i64 i, .string t, .slice ao l.length co, .string p], .int .i64 23, .int .i64 (n * 16 + z + 8)] W fun e w' => ∃ aa ca, e = .returned (.tuple #[.agg #[.int .i64 k2, .int .i64 c2, .int .i64 i2, .string t2, .slice aa l2.length ca, .string p2], .int .i64 DE]) ∧ OptsIn w' aa l2 ∧ (l2 = [] ∨ ∃ g o, aa = some ⟨g, o, none⟩ ∧ W.heap.size ≤ g) ∧ Below W.heap.size W w') := CW2.out
        clear CW2
        go_wp2_with fail
        refine (CW3.out _ HU2.out.bel).mono ?_
        rintro e w3 ⟨A1, C1, rfl, hO, hF, hb3⟩
        have HU3 := hide (HU2.out.step hb3)
        have hlt2 := HU2.out.lt
        have s3 : ∀ o, w3.cell? ⟨w.heap.size + 1 + 1, o, none⟩ = (#[.int .i64 0, .int .i64 0, .int .i64 0, .string ⟨#[]⟩, .slice none 0 0, .string ⟨#[]⟩] : Array Value)[o]? := fun o => Lib.cell_of_heap HU3.out.x2 o
        have f3 : ∀ o, w3.frozen? ⟨w.heap.size + 1 + 1, o, none⟩ = false := fun o => Lib.frozen_of_heap HU3.out.x2 o
        have HO := hide (opts_fresh (b := w.heap.size + 1 + 1) hO hF hlt2 (.int .i64 k2) (.int .i64 c2) (.int .i64 i2) (.string t2) (.slice A1 l2.length C1) (.string p2))
        have HFF : Hid (l2 = [] ∨ ∃ g o, A1 = some ⟨g, o, none⟩ ∧ w.heap.size ≤ g) := hF.imp id fun ⟨g, o, h, hg⟩ => ⟨g, o, h, by omega⟩
        have HBE := hide (set6_below HU3.out.bel (show w.heap.size ≤ w.heap.size + 1 + 1 by omega) (.int .i64 k2) (.int .i64 c2) (.int .i64 i2) (.string t2) (.slice A1 l2.length C1) (.string p2))
        clear hO hF hb3 HU3 HU2 q2 r2 s2 f2 CW3
        go_wp2
        exact bodyPost_ret (v := .tuple #[.agg #[.int .i64 k2, .int .i64 c2, .int .i64 i2, .string t2, .slice A1 l2.length C1, .string p2], .int .i64 DE]) (by simp [results, Tryd.results13, go_sem, World.cell?_setCell_same, s3]) rfl ⟨A1, C1, by rw [HM2.out, HE2.out]; rfl, by rw [HM2.out]; exact HO.out, by rw [HM2.out]; exact HFF.out, HBE.out⟩
      | false =>
        have HX : Hid (blkX n false z = n * 16 + z) := by show _ = _; simp [blkX]
        rw [HX.out] at HE2 HM2
        generalize hWM : WU (n * 16 + z) = D at *
        generalize hWE : WE (n * 16 + z) = DE at *
        have CW2 : Hid (∀ W, Below w.heap.size w W → Calls Tryd.prog 7 #[.agg #[.int .i64 k, .int .i64 c, .int .i64 i, .string t, .slice ao l.length co, .string p], .int .i64 23, .int .i64 (n * 16 + z)] W (NewW W D DE)) := fun W hW => by rw [← hWM, ← hWE]; exact CW.out _ W hW
        clear CW hWM hWE HX
        obtain ⟨k2, c2, i2, t2, l2, p2⟩ := D
        have CW3 : Hid (∀ W, Below w.heap.size w W → Calls Tryd.prog 7 #[.agg #[.int .i64 k, .int .i64 c, .int .i64 i, .string t, .slice ao l.length co, .string p], .int .i64 23, .int .i64 (n * 16 + z)] W fun e w' => ∃ aa ca, e = .returned (.tuple #[.agg #[.int .i64 k2, .int .i64 c2, .int .i64 i2, .string t2, .slice aa l2.length ca, .string p2], .int .i64 DE]) ∧ OptsIn w' aa l2 ∧ (l2 = [] ∨ ∃ g o, aa = some ⟨g, o, none⟩ ∧ W.heap.size ≤ g) ∧ Below W.heap.size W w') := CW2.out
        clear CW2
        go_wp2_with fail
        refine (CW3.out _ HU2.out.bel).mono ?_
        rintro e w3 ⟨A1, C1, rfl, hO, hF, hb3⟩
        have HU3 := hide (HU2.out.step hb3)
        have hlt2 := HU2.out.lt
        have s3 : ∀ o, w3.cell? ⟨w.heap.size + 1 + 1, o, none⟩ = (#[.int .i64 0, .int .i64 0, .int .i64 0, .string ⟨#[]⟩, .slice none 0 0, .string ⟨#[]⟩] : Array Value)[o]? := fun o => Lib.cell_of_heap HU3.out.x2 o
        have f3 : ∀ o, w3.frozen? ⟨w.heap.size + 1 + 1, o, none⟩ = false := fun o => Lib.frozen_of_heap HU3.out.x2 o
        have HO := hide (opts_fresh (b := w.heap.size + 1 + 1) hO hF hlt2 (.int .i64 k2) (.int .i64 c2) (.int .i64 i2) (.string t2) (.slice A1 l2.length C1) (.string p2))
        have HFF : Hid (l2 = [] ∨ ∃ g o, A1 = some ⟨g, o, none⟩ ∧ w.heap.size ≤ g) := hF.imp id fun ⟨g, o, h, hg⟩ => ⟨g, o, h, by omega⟩
        have HBE := hide (set6_below HU3.out.bel (show w.heap.size ≤ w.heap.size + 1 + 1 by omega) (.int .i64 k2) (.int .i64 c2) (.int .i64 i2) (.string t2) (.slice A1 l2.length C1) (.string p2))
        clear hO hF hb3 HU3 HU2 q2 r2 s2 f2 CW3
        go_wp2
        exact bodyPost_ret (v := .tuple #[.agg #[.int .i64 k2, .int .i64 c2, .int .i64 i2, .string t2, .slice A1 l2.length C1, .string p2], .int .i64 DE]) (by simp [results, Tryd.results13, go_sem, World.cell?_setCell_same, s3]) rfl ⟨A1, C1, by rw [HM2.out, HE2.out]; rfl, by rw [HM2.out]; exact HO.out, by rw [HM2.out]; exact HFF.out, HBE.out⟩
  · have hE' : (E != 0) = true := by simp [hE]
    have HE2 : Hid (UE = E) := by have := HE.out; rw [if_pos hE] at this; exact this
    have HM2 : Hid (UM = zMg) := by have := HM.out; rw [if_pos hE] at this; exact this
    clear HE HM CW CI hE HR
    have HBE := hide (set6_below HU1.out.bel (show w.heap.size ≤ w.heap.size + 1 + 1 by omega) (.int .i64 0) (.int .i64 0) (.int .i64 0) (.string ⟨#[]⟩) (.slice none 0 0) (.string ⟨#[]⟩))
    go_wp2
    exact bodyPost_ret (v := .tuple #[.agg #[.int .i64 0, .int .i64 0, .int .i64 0, .string ⟨#[]⟩, .slice none 0 0, .string ⟨#[]⟩], .int .i64 E]) (by simp [results, Tryd.results13, go_sem, World.cell?_setCell_same, s1]) rfl ⟨none, 0, by rw [HM2.out, HE2.out]; rfl, by rw [HM2.out]; exact .inl rfl, .inl (by rw [HM2.out]; rfl), HBE.out⟩
end Go.Proofs.YtgmjdelgocbcaacDoor
