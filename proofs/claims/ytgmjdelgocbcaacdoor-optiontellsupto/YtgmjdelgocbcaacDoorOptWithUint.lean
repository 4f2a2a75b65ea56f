/-
  option.WithUint: what it answers.
-/
import Derived.Test.YtgmjdelgocbcaacDoorOptUintGet
namespace Go.Proofs.YtgmjdelgocbcaacDoor
open Go.RowKit Go.PlainAid

/-- a message comes in memory of its own, and a number -/
def NewW (w : World) (m : Mg) (E : Int) (e : Ending) (w' : World) : Prop := ∃ aa ca, e = .returned (.tuple #[mgV m aa ca, .int .i64 E]) ∧ OptsIn w' aa m.opts ∧ (m.opts = [] ∨ ∃ g o, aa = some ⟨g, o, none⟩ ∧ w.heap.size ≤ g) ∧ Below w.heap.size w w'
def withM (m : Mg) (n : Int) (vs : List ByteArray) : Mg := ⟨m.kind, m.code, m.id, m.token, withL m.opts n vs, m.payload⟩
def wuM (m : Mg) (n x : Int) : Mg := if chkM m ≠ 0 then zMg else if x < 0 ∨ 16777215 < x then zMg else chkdM (withM m n [shortS x])
def wuE (m : Mg) (n x : Int) : Int := if chkM m ≠ 0 then chkM m else if x < 0 ∨ 16777215 < x then 3 else chkM (withM m n [shortS x])
theorem shortS_size (x : Int) : (shortS x).size ≤ 281474976710656 := by
  have h1 : (shortS x).size = (Lib.trimLeftB (numS x 3).data.toList 0).length := by unfold shortS; simp [ByteArray.size]
  have h2 : (Lib.trimLeftB (numS x 3).data.toList 0).length ≤ (numS x 3).data.toList.length := by unfold Lib.trimLeftB; exact List.Sublist.length_le (List.dropWhile_sublist _)
  have h3 : (numS x 3).data.toList.length ≤ 3 := by
    by_cases h : numE x 3 = 0
    · rw [numS_ok h]; simp [strOfNums, beL]
    · rw [numS_no h]; simp
  omega
theorem opts_fresh {w W : World} {b : Nat} {aa : Option Addr} {l : List Op2} (h : OptsIn W aa l) (hf : l = [] ∨ ∃ g o, aa = some ⟨g, o, none⟩ ∧ w.heap.size ≤ g) (hb : b < w.heap.size) (x0 x1 x2 x3 x4 x5 : Value) : OptsIn (set6 W b x0 x1 x2 x3 x4 x5) aa l := by
  rcases h with h | ⟨g, o, rfl, hg, hc⟩
  · exact .inl h
  · rcases hf with hf | ⟨g', o', e, hg'⟩
    · exact .inl hf
    · injection e with e
      injection e with e1 e2
      subst e1
      have hne : g ≠ b := by omega
      refine .inr ⟨g, o, rfl, ?_, fun i hi => ?_⟩
      · have : (set6 W b x0 x1 x2 x3 x4 x5).heap[g]? = some W.heap[g] := by rw [set6_other _ _ _ _ _ _ _ _ hne]; exact Array.getElem?_eq_getElem hg
        exact (Array.getElem?_eq_some_iff.1 this).1
      · have hs := set6_other W b x0 x1 x2 x3 x4 x5 hne
        have hcc : ∀ q, (set6 W b x0 x1 x2 x3 x4 x5).cell? ⟨g, q, none⟩ = W.cell? ⟨g, q, none⟩ := fun q => by
          unfold set6
          simp [World.cell?_setCell_other]
        rw [hcc, hcc]
        exact hc i hi

/-- two boxes stay -/
structure Uw (w : World) (o0 o1 : Obj) (W : World) : Prop where
  bel : Below w.heap.size w W
  x0 : W.heap[w.heap.size]? = some o0
  x1 : W.heap[w.heap.size + 1]? = some o1
theorem Uw.step {w : World} {o0 o1 : Obj} {W W' : World} (h : Uw w o0 o1 W) (hb : Below W.heap.size W W') : Uw w o0 o1 W' :=
  ⟨h.bel.trans (hb.mono h.bel.size), (hb.block _ (Array.getElem?_eq_some_iff.1 h.x0).1).trans h.x0, (hb.block _ (Array.getElem?_eq_some_iff.1 h.x1).1).trans h.x1⟩
theorem Uw.drew {w : World} {o0 o1 : Obj} {W : World} (h : Uw w o0 o1 W) : Uw w o0 o1 W.drew := ⟨h.bel.drew, h.x0, h.x1⟩
theorem Uw.lt {w : World} {o0 o1 : Obj} {W : World} (h : Uw w o0 o1 W) : w.heap.size + 1 < W.heap.size := (Array.getElem?_eq_some_iff.1 h.x1).1
theorem Uw.alloc {w : World} {o0 o1 : Obj} {W : World} (h : Uw w o0 o1 W) (x : Obj) : Uw w o0 o1 (W.alloc x) := h.step ((Below.refl _ W).alloc (Nat.le_refl _) x)
theorem strs_new (W : World) (s : ByteArray) : StrsIn (W.alloc (.cells #[.string s] 9)) (some ⟨W.heap.size, 0, none⟩) [s] :=
  .inr ⟨W.heap.size, 0, rfl, by simp, fun i hi => by
    have : i = 0 := by simp at hi; exact hi
    subst this
    exact Lib.cell_of_heap (Go.heap_alloc_new W _) 0⟩
theorem chkd_lies (m : Mg) {w W : World} {aa : Option Addr} (h : OptsIn W aa m.opts) (hf : m.opts = [] ∨ ∃ g o, aa = some ⟨g, o, none⟩ ∧ w.heap.size ≤ g) : OptsIn W (if chkM m = 0 then aa else none) (chkdM m).opts ∧ ((chkdM m).opts = [] ∨ ∃ g o, (if chkM m = 0 then aa else none) = some ⟨g, o, none⟩ ∧ w.heap.size ≤ g) := by
  unfold chkdM
  by_cases hc : chkM m = 0
  · rw [if_pos hc, if_pos hc]; exact ⟨h, hf⟩
  · rw [if_neg hc, if_neg hc]; exact ⟨.inl rfl, .inl rfl⟩

set_option maxHeartbeats 8000000 in
set_option maxRecDepth 100000 in
theorem withUint_any (m : Mg) (ao : Option Addr) (co : Nat) (n x : Int) (w : World) (hl : OptsIn w ao m.opts) :
    Calls Tryd.prog 7 #[mgV m ao co, .int .i64 n, .int .i64 x] w (NewW w (wuM m n x) (wuE m n x)) := by
  have C : Hid (∀ W, Below w.heap.size w W → Calls Tryd.prog 27 #[mgV m ao co] W fun e w' => e = .returned (.int .i64 (chkM m)) ∧ Below W.heap.size W w') := fun W h => mcheck_any m ao co W (hl.below h)
  have CW : Hid (chkM m = 0 → ∀ W b, Below w.heap.size w W → StrsIn W (some ⟨b, 0, none⟩) [shortS x] → Calls Tryd.prog 29 #[mgV m ao co, .int .i64 n, .slice (some ⟨b, 0, none⟩) 1 1] W (NewO W (withM m n [shortS x]))) := fun h W b hW hs =>
    with_any m ao co n [shortS x] (some ⟨b, 0, none⟩) 1 W (hl.below hW) hs (chkM_ok h).2.2.2.2.1 (by simp) (fun k hk => Nat.le_trans (chk_sizes h k hk) (by decide)) (fun s hs => by simp at hs; subst hs; exact shortS_size x) (Nat.le_trans (chkM_ok h).2.2.2.1 (by decide)) (Nat.le_trans (chkM_ok h).2.2.2.2.2.1 (by decide))
  have HM : Hid (wuM m n x = if chkM m ≠ 0 then zMg else if x < 0 ∨ 16777215 < x then zMg else chkdM (withM m n [shortS x])) := rfl
  have HE : Hid (wuE m n x = if chkM m ≠ 0 then chkM m else if x < 0 ∨ 16777215 < x then 3 else chkM (withM m n [shortS x])) := rfl
  have CS := hide (shortest_any x)
  have CC := hide (fun ao co w hl => checked_any (withM m n [shortS x]) ao co w hl)
  clear hl
  generalize wuM m n x = UM at *
  generalize wuE m n x = UE at *
  generalize withM m n [shortS x] = WM at *
  generalize shortS x = s at *
  generalize chkM m = E at *
  obtain ⟨k, c, i, t, l, p⟩ := m
  simp only [mgV] at C CW ⊢
  have HB0 := hide (((Below.refl w.heap.size w).alloc (Nat.le_refl _) (.cells #[.int .i64 k, .int .i64 c, .int .i64 i, .string t, .slice ao l.length co, .string p] 24)).alloc (by simp) (.cells #[.int .i64 0, .int .i64 0, .int .i64 0, .string ⟨#[]⟩, .slice none 0 0, .string ⟨#[]⟩] 24))
  have HX0 : Hid (((w.alloc (.cells #[.int .i64 k, .int .i64 c, .int .i64 i, .string t, .slice ao l.length co, .string p] 24)).alloc (.cells #[.int .i64 0, .int .i64 0, .int .i64 0, .string ⟨#[]⟩, .slice none 0 0, .string ⟨#[]⟩] 24)).heap[w.heap.size]? = some (.cells #[.int .i64 k, .int .i64 c, .int .i64 i, .string t, .slice ao l.length co, .string p] 24 (0, 0))) := by
    show _ = _
    rw [Below.heap_alloc _ _ _ (by simp)]; exact Go.heap_alloc_new w _
  have HX1 : Hid (((w.alloc (.cells #[.int .i64 k, .int .i64 c, .int .i64 i, .string t, .slice ao l.length co, .string p] 24)).alloc (.cells #[.int .i64 0, .int .i64 0, .int .i64 0, .string ⟨#[]⟩, .slice none 0 0, .string ⟨#[]⟩] 24)).heap[w.heap.size + 1]? = some (.cells #[.int .i64 0, .int .i64 0, .int .i64 0, .string ⟨#[]⟩, .slice none 0 0, .string ⟨#[]⟩] 24 (0, 0))) := oblk1 (by simp)
  go_enter Tryd.func7, Tryd.ntmps7
  go_upto_region 1 with fail
  revert HB0 HX0 HX1
  generalize (w.alloc (.cells #[.int .i64 k, .int .i64 c, .int .i64 i, .string t, .slice ao l.length co, .string p] 24)).alloc (.cells #[.int .i64 0, .int .i64 0, .int .i64 0, .string ⟨#[]⟩, .slice none 0 0, .string ⟨#[]⟩] 24) = W0
  intro HB0 HX0 HX1
  have q : ∀ o, W0.cell? ⟨w.heap.size, o, none⟩ = (#[.int .i64 k, .int .i64 c, .int .i64 i, .string t, .slice ao l.length co, .string p] : Array Value)[o]? := fun o => Lib.cell_of_heap HX0.out o
  go_wp2_with fail
  refine (C.out _ HB0.out).mono ?_
  rintro e w1 ⟨rfl, hb1⟩
  have HB1 := hide (below_step HB0.out hb1)
  have hx0 := (hb1.block _ (Array.getElem?_eq_some_iff.1 HX0.out).1).trans HX0.out
  have hx1 := (hb1.block _ (Array.getElem?_eq_some_iff.1 HX1.out).1).trans HX1.out
  have q0 : ∀ o, w1.cell? ⟨w.heap.size, o, none⟩ = (#[.int .i64 k, .int .i64 c, .int .i64 i, .string t, .slice ao l.length co, .string p] : Array Value)[o]? := fun o => Lib.cell_of_heap hx0 o
  have q1 : ∀ o, w1.cell? ⟨w.heap.size + 1, o, none⟩ = (#[.int .i64 0, .int .i64 0, .int .i64 0, .string ⟨#[]⟩, .slice none 0 0, .string ⟨#[]⟩] : Array Value)[o]? := fun o => Lib.cell_of_heap hx1 o
  have f1 : ∀ o, w1.frozen? ⟨w.heap.size + 1, o, none⟩ = false := fun o => Lib.frozen_of_heap hx1 o
  replace HX0 := hide hx0
  replace HX1 := hide hx1
  clear hb1 hx0 hx1 q C HB0
  by_cases hE : E = 0
  · have hE' : (E != 0) = false := by simp [hE]
    by_cases hx : x < 0 ∨ 16777215 < x
    · have HE2 : Hid (UE = 3) := by have := HE.out; rw [if_neg (by simp [hE]), if_pos hx] at this; exact this
      have HM2 : Hid (UM = zMg) := by have := HM.out; rw [if_neg (by simp [hE]), if_pos hx] at this; exact this
      subst hE
      clear HE HM CW CS CC HX0 HX1
      have HBE := hide (set6_below HB1.out (show w.heap.size ≤ w.heap.size + 1 by omega) (.int .i64 0) (.int .i64 0) (.int .i64 0) (.string ⟨#[]⟩) (.slice none 0 0) (.string ⟨#[]⟩))
      by_cases hx0 : x < 0
      · clear hx
        go_wp2
        exact bodyPost_ret (v := .tuple #[.agg #[.int .i64 0, .int .i64 0, .int .i64 0, .string ⟨#[]⟩, .slice none 0 0, .string ⟨#[]⟩], .int .i64 3]) (by simp [results, Tryd.results7, go_sem, World.cell?_setCell_same, q1]) rfl ⟨none, 0, by rw [HM2.out, HE2.out]; rfl, by rw [HM2.out]; exact .inl rfl, .inl (by rw [HM2.out]; rfl), HBE.out⟩
      · have hx1 : 16777215 < x := by omega
        clear hx
        go_wp2
        exact bodyPost_ret (v := .tuple #[.agg #[.int .i64 0, .int .i64 0, .int .i64 0, .string ⟨#[]⟩, .slice none 0 0, .string ⟨#[]⟩], .int .i64 3]) (by simp [results, Tryd.results7, go_sem, World.cell?_setCell_same, q1]) rfl ⟨none, 0, by rw [HM2.out, HE2.out]; rfl, by rw [HM2.out]; exact .inl rfl, .inl (by rw [HM2.out]; rfl), HBE.out⟩
    · have HE2 : Hid (UE = chkM WM) := by have := HE.out; rw [if_neg (by simp [hE]), if_neg hx] at this; exact this
      have HM2 : Hid (UM = chkdM WM) := by have := HM.out; rw [if_neg (by simp [hE]), if_neg hx] at this; exact this
      have CW2 := hide (CW.out hE)
      subst hE
      clear HE HM CW
      have hx0 : decide (x < 0) = false := by simp; omega
      have hx1 : decide (16777215 < x) = false := by simp; omega
      clear hx
      have HU : Hid (Uw w (.cells #[.int .i64 k, .int .i64 c, .int .i64 i, .string t, .slice ao l.length co, .string p] 24 (0, 0)) (.cells #[.int .i64 0, .int .i64 0, .int .i64 0, .string ⟨#[]⟩, .slice none 0 0, .string ⟨#[]⟩] 24 (0, 0)) w1) := ⟨HB1.out, HX0.out, HX1.out⟩
      clear HB1 HX0 HX1 q1 f1
      have HCL : Hid (∀ {w W : World} {aa : Option Addr}, OptsIn W aa WM.opts → (WM.opts = [] ∨ ∃ g o, aa = some ⟨g, o, none⟩ ∧ w.heap.size ≤ g) → OptsIn W (if chkM WM = 0 then aa else none) (chkdM WM).opts ∧ ((chkdM WM).opts = [] ∨ ∃ g o, (if chkM WM = 0 then aa else none) = some ⟨g, o, none⟩ ∧ w.heap.size ≤ g)) := fun h hf => chkd_lies WM h hf
      have CC2 : Hid (∀ ao co W, OptsIn W ao WM.opts → Calls Tryd.prog 28 #[mgV WM ao co] W fun e w' => ∃ A1 C1, e = .returned (.tuple #[mgV (chkdM WM) A1 C1, .int .i64 (chkM WM)]) ∧ Hid (A1 = if chkM WM = 0 then ao else none) ∧ Below W.heap.size W w') := fun ao co W h => (CC.out ao co W h).mono fun e w' hh => ⟨_, _, hh.1, rfl, hh.2⟩
      clear CC
      generalize chkdM WM = D at *
      obtain ⟨k2, c2, i2, t2, l2, p2⟩ := D
      simp only [mgV] at CC2
      have z0 := q0 0
      have z1 := q0 1
      have z2 := q0 2
      have z3 := q0 3
      have z4 := q0 4
      have z5 := q0 5
      simp only [List.getElem?_toArray, List.getElem?_cons_zero, List.getElem?_cons_succ] at z0 z1 z2 z3 z4 z5
      clear q0
      go_wp2_with fail
      go_region_held3 (fun w' => w'.cell? ⟨w.heap.size, 0, none⟩ = some (.int .i64 k) ∧ w'.cell? ⟨w.heap.size, 1, none⟩ = some (.int .i64 c) ∧ w'.cell? ⟨w.heap.size, 2, none⟩ = some (.int .i64 i) ∧ w'.cell? ⟨w.heap.size, 3, none⟩ = some (.string t) ∧ w'.cell? ⟨w.heap.size, 4, none⟩ = some (.slice ao l.length co) ∧ w'.cell? ⟨w.heap.size, 5, none⟩ = some (.string p)) (first
            | go_keep
            | (go_split_ands; refine ⟨?_, ?_, ?_, ?_, ?_, ?_⟩ <;> (rw [World.cell?_setCell_other _ _ _ _ (by simp), World.cell?_setCell_other _ _ _ _ (by simp), World.cell?_setCell_other _ _ _ _ (by simp), World.cell?_setCell_other _ _ _ _ (by simp), World.cell?_setCell_other _ _ _ _ (by simp), World.cell?_setCell_other _ _ _ _ (by simp)]; assumption)))
          (first
            | (go_at_call 30; refine (CS.out _).mono ?_; rintro e wa ⟨rfl, hba⟩; have IA := HU.out.drew.step hba; have a0 : wa.cell? ⟨w.heap.size, 0, none⟩ = some (.int .i64 k) := Lib.cell_of_heap IA.x0 0; have a1 : wa.cell? ⟨w.heap.size, 1, none⟩ = some (.int .i64 c) := Lib.cell_of_heap IA.x0 1; have a2 : wa.cell? ⟨w.heap.size, 2, none⟩ = some (.int .i64 i) := Lib.cell_of_heap IA.x0 2; have a3 : wa.cell? ⟨w.heap.size, 3, none⟩ = some (.string t) := Lib.cell_of_heap IA.x0 3; have a4 : wa.cell? ⟨w.heap.size, 4, none⟩ = some (.slice ao l.length co) := Lib.cell_of_heap IA.x0 4; have a5 : wa.cell? ⟨w.heap.size, 5, none⟩ = some (.string p) := Lib.cell_of_heap IA.x0 5; have hlta := IA.lt; have hnea : w.heap.size ≠ wa.heap.size := (by omega))
            | (go_at_call 29; refine (CW2.out _ wa.heap.size (IA.alloc _).bel (strs_new wa s)).mono ?_; rintro e wb ⟨ab, cb, rfl, hob, hfb, hbb⟩; have IB := (IA.alloc _).step hbb; have b0 : wb.cell? ⟨w.heap.size, 0, none⟩ = some (.int .i64 k) := Lib.cell_of_heap IB.x0 0; have b1 : wb.cell? ⟨w.heap.size, 1, none⟩ = some (.int .i64 c) := Lib.cell_of_heap IB.x0 1; have b2 : wb.cell? ⟨w.heap.size, 2, none⟩ = some (.int .i64 i) := Lib.cell_of_heap IB.x0 2; have b3 : wb.cell? ⟨w.heap.size, 3, none⟩ = some (.string t) := Lib.cell_of_heap IB.x0 3; have b4 : wb.cell? ⟨w.heap.size, 4, none⟩ = some (.slice ao l.length co) := Lib.cell_of_heap IB.x0 4; have b5 : wb.cell? ⟨w.heap.size, 5, none⟩ = some (.string p) := Lib.cell_of_heap IB.x0 5)
            | (go_at_call 28; refine (CC2.out _ _ _ hob).mono ?_; rintro e wc ⟨A1, C1, rfl, HA1, hbc⟩; have IC := IB.step hbc; have c0 : wc.cell? ⟨w.heap.size, 0, none⟩ = some (.int .i64 k) := Lib.cell_of_heap IC.x0 0; have c1' : wc.cell? ⟨w.heap.size, 1, none⟩ = some (.int .i64 c) := Lib.cell_of_heap IC.x0 1; have c2' : wc.cell? ⟨w.heap.size, 2, none⟩ = some (.int .i64 i) := Lib.cell_of_heap IC.x0 2; have c3 : wc.cell? ⟨w.heap.size, 3, none⟩ = some (.string t) := Lib.cell_of_heap IC.x0 3; have c4 : wc.cell? ⟨w.heap.size, 4, none⟩ = some (.slice ao l.length co) := Lib.cell_of_heap IC.x0 4; have c5 : wc.cell? ⟨w.heap.size, 5, none⟩ = some (.string p) := Lib.cell_of_heap IC.x0 5; have iz : ∀ q, wc.cell? ⟨w.heap.size + 1, q, none⟩ = (#[.int .i64 0, .int .i64 0, .int .i64 0, .string ⟨#[]⟩, .slice none 0 0, .string ⟨#[]⟩] : Array Value)[q]? := (fun q => Lib.cell_of_heap IC.x1 q); have izf : ∀ q, wc.frozen? ⟨w.heap.size + 1, q, none⟩ = false := (fun q => Lib.frozen_of_heap IC.x1 q))
            | fail)
      all_goals
        have HOF := HCL.out hob hfb
        have HO1 : OptsIn wc A1 l2 := by rw [HA1.out]; exact HOF.1.below hbc
        have HF1 : l2 = [] ∨ ∃ g o, A1 = some ⟨g, o, none⟩ ∧ (wa.alloc (.cells #[.string s] 9)).heap.size ≤ g := by rw [HA1.out]; exact HOF.2
        have HO := hide (opts_fresh (b := w.heap.size + 1) HO1 HF1 (by simp; omega) (.int .i64 k2) (.int .i64 c2) (.int .i64 i2) (.string t2) (.slice A1 l2.length C1) (.string p2))
        have HFF : Hid (l2 = [] ∨ ∃ g o, A1 = some ⟨g, o, none⟩ ∧ w.heap.size ≤ g) := HF1.imp id fun ⟨g, o, h, hg⟩ => ⟨g, o, h, by simp at hg; omega⟩
        have HBE := hide (set6_below IC.bel (show w.heap.size ≤ w.heap.size + 1 by omega) (.int .i64 k2) (.int .i64 c2) (.int .i64 i2) (.string t2) (.slice A1 l2.length C1) (.string p2))
        clear HOF HO1 HF1
        go_wp2
        exact bodyPost_ret (v := .tuple #[.agg #[.int .i64 k2, .int .i64 c2, .int .i64 i2, .string t2, .slice A1 l2.length C1, .string p2], .int .i64 (chkM WM)]) (by simp [results, Tryd.results7, go_sem, World.cell?_setCell_same, iz]) rfl ⟨A1, C1, by rw [HM2.out, HE2.out]; rfl, by rw [HM2.out]; exact HO.out, by rw [HM2.out]; exact HFF.out, HBE.out⟩
  · have hE' : (E != 0) = true := by simp [hE]
    have HE2 : Hid (UE = E) := by have := HE.out; rw [if_pos hE] at this; exact this
    have HM2 : Hid (UM = zMg) := by have := HM.out; rw [if_pos hE] at this; exact this
    clear HE HM CW CS CC hE HX0 HX1
    have HBE := hide (set6_below HB1.out (show w.heap.size ≤ w.heap.size + 1 by omega) (.int .i64 0) (.int .i64 0) (.int .i64 0) (.string ⟨#[]⟩) (.slice none 0 0) (.string ⟨#[]⟩))
    go_wp2
    exact bodyPost_ret (v := .tuple #[.agg #[.int .i64 0, .int .i64 0, .int .i64 0, .string ⟨#[]⟩, .slice none 0 0, .string ⟨#[]⟩], .int .i64 E]) (by simp [results, Tryd.results7, go_sem, World.cell?_setCell_same, q1]) rfl ⟨none, 0, by rw [HM2.out, HE2.out]; rfl, by rw [HM2.out]; exact .inl rfl, .inl (by rw [HM2.out]; rfl), HBE.out⟩
end Go.Proofs.YtgmjdelgocbcaacDoor
