/-
  option.WithPath: what it answers.
-/
import Derived.Test.YtgmjdelgocbcaacDoorOptWithUint
import Derived.Test.YtgmjdelgocbcaacDoorOptPath
namespace Go.Proofs.YtgmjdelgocbcaacDoor
open Go.RowKit Go.PlainAid

def wpM (m : Mg) (x : ByteArray) : Mg := if chkM m ≠ 0 then zMg else if chk nameF x ≠ 0 then zMg else chkdM (withM m 11 (LV x))
def wpE (m : Mg) (x : ByteArray) : Int := if chkM m ≠ 0 then chkM m else if chk nameF x ≠ 0 then chk nameF x else chkM (withM m 11 (LV x))
theorem lv_each : ∀ (x : List UInt8), ∀ l ∈ lvL x, l.length ≤ x.length := by
  intro x
  induction x with
  | nil => intro l hl; simp [lvL] at hl; simp [hl]
  | cons c r ih =>
    intro l hl
    rw [lvL] at hl
    split at hl
    · rcases List.mem_cons.1 hl with rfl | hl
      · simp
      · have := ih l hl; simp; omega
    · split at hl
      · simp at hl; subst hl; simp
      · rename_i h t e
        rcases List.mem_cons.1 hl with rfl | hl
        · have := ih h (by rw [e]; simp); simp; omega
        · have := ih l (by rw [e]; simp [hl]); simp; omega
theorem chk_sz {s : ByteArray} (h : chk nameF s = 0) : s.size ≤ 60 ∧ (LV s).length ≤ 6 := by
  unfold chk at h
  split at h
  · simp at h
  · split at h
    · simp at h
    · split at h
      · simp at h
      · omega
theorem LV_each {s : ByteArray} (h : chk nameF s = 0) : ∀ y ∈ LV s, y.size ≤ 60 := fun y hy => by
  obtain ⟨l, hl, rfl⟩ := List.mem_map.1 hy
  have h1 := lv_each s.data.toList l hl
  have h2 := (chk_sz h).1
  have h3 : s.data.toList.length = s.size := by simp
  have h4 : (⟨l.toArray⟩ : ByteArray).size = l.length := rfl
  rw [h4]
  omega

set_option maxHeartbeats 8000000 in
set_option maxRecDepth 100000 in
theorem withPath_any (m : Mg) (ao : Option Addr) (co : Nat) (x : ByteArray) (mx : Int) (w : World) (hm : w.cell? ⟨0, 0, none⟩ = some (.int .i64 mx)) (hz : 0 < w.heap.size) (hl : OptsIn w ao m.opts) :
    Calls Tryd.prog 10 #[mgV m ao co, .string x] w (NewW w (wpM m x) (wpE m x)) := by
  have C : Hid (∀ W, Below w.heap.size w W → Calls Tryd.prog 27 #[mgV m ao co] W fun e w' => e = .returned (.int .i64 (chkM m)) ∧ Below W.heap.size W w') := fun W h => mcheck_any m ao co W (hl.below h)
  have CN : Hid (∀ W, Below w.heap.size w W → Calls Tryd.prog 33 #[.string x] W fun e w' => e = .returned (.int .i64 (chk nameF x)) ∧ Below W.heap.size W w') := fun W hW => name_any x mx W ((hW.cell (p := ⟨0, 0, none⟩) hz).trans hm)
  have CW : Hid (chkM m = 0 → chk nameF x = 0 → ∀ W b, Below w.heap.size w W → StrsIn W (some ⟨b, 0, none⟩) (LV x) → Calls Tryd.prog 29 #[mgV m ao co, .int .i64 11, .slice (some ⟨b, 0, none⟩) (LV x).length (LV x).length] W (NewO W (withM m 11 (LV x)))) := fun h hn W b hW hs =>
    with_any m ao co 11 (LV x) (some ⟨b, 0, none⟩) (LV x).length W (hl.below hW) hs (chkM_ok h).2.2.2.2.1 (Nat.le_trans (chk_sz hn).2 (by decide)) (fun k hk => Nat.le_trans (chk_sizes h k hk) (by decide)) (fun s hs => Nat.le_trans (LV_each hn s hs) (by decide)) (Nat.le_trans (chkM_ok h).2.2.2.1 (by decide)) (Nat.le_trans (chkM_ok h).2.2.2.2.2.1 (by decide))
  have CS : Hid (chk nameF x = 0 → ∀ W, Below w.heap.size w W → Calls Tryd.prog 35 #[.string x, .string ⟨#[47]⟩] W fun e w' => e = .returned (.slice (some ⟨W.heap.size, 0, none⟩) (LV x).length (LV x).length) ∧ StrsIn w' (some ⟨W.heap.size, 0, none⟩) (LV x) ∧ Below W.heap.size W w') := fun hn W hW => by
    have h60 := (chk_sz hn).1
    have hc := Tryd.strings_Split x ⟨#[47]⟩ mx W (by omega) ((hW.cell (p := ⟨0, 0, none⟩) hz).trans hm) (by decide)
    rw [LV_split, LV_length] at hc
    refine hc.mono ?_
    rintro e w' ⟨rfl, rfl⟩
    refine ⟨rfl, .inr ⟨W.heap.size, 0, rfl, by simp, fun i hi => ?_⟩, (Below.refl _ W).alloc (Nat.le_refl _) _⟩
    rw [Nat.zero_add, Lib.cell_of_heap (Go.heap_alloc_new W _)]
    simp [hi]
  have HM : Hid (wpM m x = if chkM m ≠ 0 then zMg else if chk nameF x ≠ 0 then zMg else chkdM (withM m 11 (LV x))) := rfl
  have HE : Hid (wpE m x = if chkM m ≠ 0 then chkM m else if chk nameF x ≠ 0 then chk nameF x else chkM (withM m 11 (LV x))) := rfl
  have CC := hide (fun ao co w hl => checked_any (withM m 11 (LV x)) ao co w hl)
  clear hl hm hz
  generalize wpM m x = UM at *
  generalize wpE m x = UE at *
  generalize withM m 11 (LV x) = WM at *
  generalize LV x = V at *
  generalize chk nameF x = NE at *
  generalize chkM m = E at *
  obtain ⟨k, c, i, t, l, p⟩ := m
  simp only [mgV] at C CW ⊢
  have HB0 := hide (((Below.refl w.heap.size w).alloc (Nat.le_refl _) (.cells #[.int .i64 k, .int .i64 c, .int .i64 i, .string t, .slice ao l.length co, .string p] 24)).alloc (by simp) (.cells #[.int .i64 0, .int .i64 0, .int .i64 0, .string ⟨#[]⟩, .slice none 0 0, .string ⟨#[]⟩] 24))
  have HX0 : Hid (((w.alloc (.cells #[.int .i64 k, .int .i64 c, .int .i64 i, .string t, .slice ao l.length co, .string p] 24)).alloc (.cells #[.int .i64 0, .int .i64 0, .int .i64 0, .string ⟨#[]⟩, .slice none 0 0, .string ⟨#[]⟩] 24)).heap[w.heap.size]? = some (.cells #[.int .i64 k, .int .i64 c, .int .i64 i, .string t, .slice ao l.length co, .string p] 24 (0, 0))) := by
    show _ = _
    rw [Below.heap_alloc _ _ _ (by simp)]; exact Go.heap_alloc_new w _
  have HX1 : Hid (((w.alloc (.cells #[.int .i64 k, .int .i64 c, .int .i64 i, .string t, .slice ao l.length co, .string p] 24)).alloc (.cells #[.int .i64 0, .int .i64 0, .int .i64 0, .string ⟨#[]⟩, .slice none 0 0, .string ⟨#[]⟩] 24)).heap[w.heap.size + 1]? = some (.cells #[.int .i64 0, .int .i64 0, .int .i64 0, .string ⟨#[]⟩, .slice none 0 0, .string ⟨#[]⟩] 24 (0, 0))) := oblk1 (by simp)
  go_enter Tryd.func10, Tryd.ntmps10
  go_upto_region 1 with fail
  revert HB0 HX0 HX1
  generalize (w.alloc (.cells #[.int .i64 k, .int .i64 c, .int .i64 i, .string t, .slice ao l.length co, .string p] 24)).alloc (.cells #[.int .i64 0, .int .i64 0, .int .i64 0, .string ⟨#[]⟩, .slice none 0 0, .string ⟨#[]⟩] 24) = W0
  intro HB0 HX0 HX1
  have q : ∀ o, W0.cell? ⟨w.heap.size, o, none⟩ = (#[.int .i64 k, .int .i64 c, .int .i64 i, .string t, .slice ao l.length co, .string p] : Array Value)[o]? := fun o => Lib.cell_of_heap HX0.out o
  go_wp2_with fail
  refine (C.out _ HB0.out).mono ?_
  rintro e w1 ⟨rfl, hb1⟩
  have HB1 := hide (below_step HB0.out hb1)
  have hx0 := (hb1.block _ (Array.getElem?_eq_some_iff.1 HX0.out).1).trans HX0.out
  have hx1 := (hb1.block _ (Array.getElem?_eq_some_iff.1 HX1.out).1).trans HX1.out
  have q0 : ∀ o, w1.cell? ⟨w.heap.size, o, none⟩ = (#[.int .i64 k, .int .i64 c, .int .i64 i, .string t, .slice ao l.length co, .string p] : Array Value)[o]? := fun o => Lib.cell_of_heap hx0 o
  have q1 : ∀ o, w1.cell? ⟨w.heap.size + 1, o, none⟩ = (#[.int .i64 0, .int .i64 0, .int .i64 0, .string ⟨#[]⟩, .slice none 0 0, .string ⟨#[]⟩] : Array Value)[o]? := fun o => Lib.cell_of_heap hx1 o
  have f1 : ∀ o, w1.frozen? ⟨w.heap.size + 1, o, none⟩ = false := fun o => Lib.frozen_of_heap hx1 o
  replace HX0 := hide hx0
  replace HX1 := hide hx1
  clear hb1 hx0 hx1 q C HB0
  by_cases hE : E = 0
  · have hE' : (E != 0) = false := by simp [hE]
    have HE1 : Hid (UE = if NE ≠ 0 then NE else chkM WM) := by have := HE.out; rw [if_neg (by simp [hE])] at this; exact this
    have HM1 : Hid (UM = if NE ≠ 0 then zMg else chkdM WM) := by have := HM.out; rw [if_neg (by simp [hE])] at this; exact this
    have CW1 := hide (CW.out hE)
    subst hE
    clear HE HM CW
    go_wp2_with fail
    refine (CN.out _ HB1.out).mono ?_
    rintro e w2 ⟨rfl, hb2⟩
    have hx0 := (hb2.block _ (Array.getElem?_eq_some_iff.1 HX0.out).1).trans HX0.out
    have hx1 := (hb2.block _ (Array.getElem?_eq_some_iff.1 HX1.out).1).trans HX1.out
    have HB2 := hide (below_step HB1.out hb2)
    clear q0 q1 f1 HX0 HX1 HB1 hb2 CN
    have q0 : ∀ o, w2.cell? ⟨w.heap.size, o, none⟩ = (#[.int .i64 k, .int .i64 c, .int .i64 i, .string t, .slice ao l.length co, .string p] : Array Value)[o]? := fun o => Lib.cell_of_heap hx0 o
    have q1 : ∀ o, w2.cell? ⟨w.heap.size + 1, o, none⟩ = (#[.int .i64 0, .int .i64 0, .int .i64 0, .string ⟨#[]⟩, .slice none 0 0, .string ⟨#[]⟩] : Array Value)[o]? := fun o => Lib.cell_of_heap hx1 o
    have f1 : ∀ o, w2.frozen? ⟨w.heap.size + 1, o, none⟩ = false := fun o => Lib.frozen_of_heap hx1 o
    have HX0 := hide hx0
    have HX1 := hide hx1
    clear hx0 hx1
    by_cases hx : NE ≠ 0
    · have hx' : (NE != 0) = true := by simp [hx]
      have HE2 : Hid (UE = NE) := by have := HE1.out; rw [if_pos hx] at this; exact this
      have HM2 : Hid (UM = zMg) := by have := HM1.out; rw [if_pos hx] at this; exact this
      clear HE1 HM1 CW1 CS CC HX0 HX1 hx
      have HBE := hide (set6_below HB2.out (show w.heap.size ≤ w.heap.size + 1 by omega) (.int .i64 0) (.int .i64 0) (.int .i64 0) (.string ⟨#[]⟩) (.slice none 0 0) (.string ⟨#[]⟩))
      go_wp2
      exact bodyPost_ret (v := .tuple #[.agg #[.int .i64 0, .int .i64 0, .int .i64 0, .string ⟨#[]⟩, .slice none 0 0, .string ⟨#[]⟩], .int .i64 NE]) (by simp [results, Tryd.results10, go_sem, World.cell?_setCell_same, q1]) rfl ⟨none, 0, by rw [HM2.out, HE2.out]; rfl, by rw [HM2.out]; exact .inl rfl, .inl (by rw [HM2.out]; rfl), HBE.out⟩
    · have hN0 : NE = 0 := Decidable.of_not_not hx
      have HE2 : Hid (UE = chkM WM) := by have := HE1.out; rw [if_neg hx] at this; exact this
      have HM2 : Hid (UM = chkdM WM) := by have := HM1.out; rw [if_neg hx] at this; exact this
      have CW2 := hide (CW1.out hN0)
      have CS2 := hide (CS.out hN0)
      subst hN0
      clear HE1 HM1 CW1 CS hx
      have HU : Hid (Uw w (.cells #[.int .i64 k, .int .i64 c, .int .i64 i, .string t, .slice ao l.length co, .string p] 24 (0, 0)) (.cells #[.int .i64 0, .int .i64 0, .int .i64 0, .string ⟨#[]⟩, .slice none 0 0, .string ⟨#[]⟩] 24 (0, 0)) w2) := ⟨HB2.out, HX0.out, HX1.out⟩
      clear HB2 HX0 HX1 q1 f1
      have HCL : Hid (∀ {w W : World} {aa : Option Addr}, OptsIn W aa WM.opts → (WM.opts = [] ∨ ∃ g o, aa = some ⟨g, o, none⟩ ∧ w.heap.size ≤ g) → OptsIn W (if chkM WM = 0 then aa else none) (chkdM WM).opts ∧ ((chkdM WM).opts = [] ∨ ∃ g o, (if chkM WM = 0 then aa else none) = some ⟨g, o, none⟩ ∧ w.heap.size ≤ g)) := fun h hf => chkd_lies WM h hf
      have CC2 : Hid (∀ ao co W, OptsIn W ao WM.opts → Calls Tryd.prog 28 #[mgV WM ao co] W fun e w' => ∃ A1 C1, e = .returned (.tuple #[mgV (chkdM WM) A1 C1, .int .i64 (chkM WM)]) ∧ Hid (A1 = if chkM WM = 0 then ao else none) ∧ Below W.heap.size W w') := fun ao co W h => (CC.out ao co W h).mono fun e w' hh => ⟨_, _, hh.1, rfl, hh.2⟩
      clear CC
      generalize chkdM WM = D at *
      obtain ⟨k2, c2, i2, t2, l2, p2⟩ := D
      simp only [mgV] at CC2
      have z0 := q0 0
      have z1 := q0 1
      have z2 := q0 2
      have z3 := q0 3
      have z4 := q0 4
      have z5 := q0 5
      simp only [List.getElem?_toArray, List.getElem?_cons_zero, List.getElem?_cons_succ] at z0 z1 z2 z3 z4 z5
      clear q0
      go_wp2_with fail
      go_region_held3 (fun w' => w'.cell? ⟨w.heap.size, 0, none⟩ = some (.int .i64 k) ∧ w'.cell? ⟨w.heap.size, 1, none⟩ = some (.int .i64 c) ∧ w'.cell? ⟨w.heap.size, 2, none⟩ = some (.int .i64 i) ∧ w'.cell? ⟨w.heap.size, 3, none⟩ = some (.string t) ∧ w'.cell? ⟨w.heap.size, 4, none⟩ = some (.slice ao l.length co) ∧ w'.cell? ⟨w.heap.size, 5, none⟩ = some (.string p)) (first
            | go_keep
            | (go_split_ands; refine ⟨?_, ?_, ?_, ?_, ?_, ?_⟩ <;> (rw [World.cell?_setCell_other _ _ _ _ (by simp), World.cell?_setCell_other _ _ _ _ (by simp), World.cell?_setCell_other _ _ _ _ (by simp), World.cell?_setCell_other _ _ _ _ (by simp), World.cell?_setCell_other _ _ _ _ (by simp), World.cell?_setCell_other _ _ _ _ (by simp)]; assumption)))
          (first
            | (go_at_call 35; refine (CS2.out _ HU.out.drew.bel).mono ?_; rintro e wa ⟨rfl, hsa, hba⟩; have IA := HU.out.drew.step hba; have a0 : wa.cell? ⟨w.heap.size, 0, none⟩ = some (.int .i64 k) := Lib.cell_of_heap IA.x0 0; have a1 : wa.cell? ⟨w.heap.size, 1, none⟩ = some (.int .i64 c) := Lib.cell_of_heap IA.x0 1; have a2 : wa.cell? ⟨w.heap.size, 2, none⟩ = some (.int .i64 i) := Lib.cell_of_heap IA.x0 2; have a3 : wa.cell? ⟨w.heap.size, 3, none⟩ = some (.string t) := Lib.cell_of_heap IA.x0 3; have a4 : wa.cell? ⟨w.heap.size, 4, none⟩ = some (.slice ao l.length co) := Lib.cell_of_heap IA.x0 4; have a5 : wa.cell? ⟨w.heap.size, 5, none⟩ = some (.string p) := Lib.cell_of_heap IA.x0 5; have hlta := IA.lt; have hnea : w.heap.size ≠ wa.heap.size := (by omega))
            | (go_at_call 29; refine (CW2.out _ _ IA.bel hsa).mono ?_; rintro e wb ⟨ab, cb, rfl, hob, hfb, hbb⟩; have IB := IA.step hbb; have b0 : wb.cell? ⟨w.heap.size, 0, none⟩ = some (.int .i64 k) := Lib.cell_of_heap IB.x0 0; have b1 : wb.cell? ⟨w.heap.size, 1, none⟩ = some (.int .i64 c) := Lib.cell_of_heap IB.x0 1; have b2 : wb.cell? ⟨w.heap.size, 2, none⟩ = some (.int .i64 i) := Lib.cell_of_heap IB.x0 2; have b3 : wb.cell? ⟨w.heap.size, 3, none⟩ = some (.string t) := Lib.cell_of_heap IB.x0 3; have b4 : wb.cell? ⟨w.heap.size, 4, none⟩ = some (.slice ao l.length co) := Lib.cell_of_heap IB.x0 4; have b5 : wb.cell? ⟨w.heap.size, 5, none⟩ = some (.string p) := Lib.cell_of_heap IB.x0 5)
            | (go_at_call 28; refine (CC2.out _ _ _ hob).mono ?_; rintro e wc ⟨A1, C1, rfl, HA1, hbc⟩; have IC := IB.step hbc; have c0 : wc.cell? ⟨w.heap.size, 0, none⟩ = some (.int .i64 k) := Lib.cell_of_heap IC.x0 0; have c1' : wc.cell? ⟨w.heap.size, 1, none⟩ = some (.int .i64 c) := Lib.cell_of_heap IC.x0 1; have c2' : wc.cell? ⟨w.heap.size, 2, none⟩ = some (.int .i64 i) := Lib.cell_of_heap IC.x0 2; have c3 : wc.cell? ⟨w.heap.size, 3, none⟩ = some (.string t) := Lib.cell_of_heap IC.x0 3; have c4 : wc.cell? ⟨w.heap.size, 4, none⟩ = some (.slice ao l.length co) := Lib.cell_of_heap IC.x0 4; have c5 : wc.cell? ⟨w.heap.size, 5, none⟩ = some (.string p) := Lib.cell_of_heap IC.x0 5; have iz : ∀ q, wc.cell? ⟨w.heap.size + 1, q, none⟩ = (#[.int .i64 0, .int .i64 0, .int .i64 0, .string ⟨#[]⟩, .slice none 0 0, .string ⟨#[]⟩] : Array Value)[q]? := (fun q => Lib.cell_of_heap IC.x1 q); have izf : ∀ q, wc.frozen? ⟨w.heap.size + 1, q, none⟩ = false := (fun q => Lib.frozen_of_heap IC.x1 q))
            | fail)
      all_goals
        have HOF := HCL.out hob hfb
        have HO1 : OptsIn wc A1 l2 := by rw [HA1.out]; exact HOF.1.below hbc
        have HF1 : l2 = [] ∨ ∃ g o, A1 = some ⟨g, o, none⟩ ∧ wa.heap.size ≤ g := by rw [HA1.out]; exact HOF.2
        have HO := hide (opts_fresh (b := w.heap.size + 1) HO1 HF1 (by omega) (.int .i64 k2) (.int .i64 c2) (.int .i64 i2) (.string t2) (.slice A1 l2.length C1) (.string p2))
        have HFF : Hid (l2 = [] ∨ ∃ g o, A1 = some ⟨g, o, none⟩ ∧ w.heap.size ≤ g) := HF1.imp id fun ⟨g, o, h, hg⟩ => ⟨g, o, h, by omega⟩
        have HBE := hide (set6_below IC.bel (show w.heap.size ≤ w.heap.size + 1 by omega) (.int .i64 k2) (.int .i64 c2) (.int .i64 i2) (.string t2) (.slice A1 l2.length C1) (.string p2))
        clear HOF HO1 HF1
        go_wp2
        exact bodyPost_ret (v := .tuple #[.agg #[.int .i64 k2, .int .i64 c2, .int .i64 i2, .string t2, .slice A1 l2.length C1, .string p2], .int .i64 (chkM WM)]) (by simp [results, Tryd.results10, go_sem, World.cell?_setCell_same, iz]) rfl ⟨A1, C1, by rw [HM2.out, HE2.out]; rfl, by rw [HM2.out]; exact HO.out, by rw [HM2.out]; exact HFF.out, HBE.out⟩
  · have hE' : (E != 0) = true := by simp [hE]
    have HE2 : Hid (UE = E) := by have := HE.out; rw [if_pos hE] at this; exact this
    have HM2 : Hid (UM = zMg) := by have := HM.out; rw [if_pos hE] at this; exact this
    clear HE HM CW CS CC CN hE HX0 HX1
    have HBE := hide (set6_below HB1.out (show w.heap.size ≤ w.heap.size + 1 by omega) (.int .i64 0) (.int .i64 0) (.int .i64 0) (.string ⟨#[]⟩) (.slice none 0 0) (.string ⟨#[]⟩))
    go_wp2
    exact bodyPost_ret (v := .tuple #[.agg #[.int .i64 0, .int .i64 0, .int .i64 0, .string ⟨#[]⟩, .slice none 0 0, .string ⟨#[]⟩], .int .i64 E]) (by simp [results, Tryd.results10, go_sem, World.cell?_setCell_same, q1]) rfl ⟨none, 0, by rw [HM2.out, HE2.out]; rfl, by rw [HM2.out]; exact .inl rfl, .inl (by rw [HM2.out]; rfl), HBE.out⟩
end Go.Proofs.YtgmjdelgocbcaacDoor
