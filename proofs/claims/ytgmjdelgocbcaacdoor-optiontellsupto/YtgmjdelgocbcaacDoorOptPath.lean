/-
  option.Path: what it answers.
-/
import Derived.Test.YtgmjdelgocbcaacDoorOptUintGet
import Derived.Test.YtgmjdelgocbcaacDoorTopicCheck
namespace Go.Proofs.YtgmjdelgocbcaacDoor
open Go.RowKit Go.PlainAid

theorem joinTail_len (l : List (List UInt8)) (h : ∀ x ∈ l, x.length ≤ 60) : (Lib.joinTail [47] l).length ≤ 61 * l.length := by
  induction l with
  | nil => simp [Lib.joinTail]
  | cons a l ih =>
    have h1 := h a (by simp)
    have h2 := ih (fun x hx => h x (by simp [hx]))
    have e : Lib.joinTail [47] (a :: l) = ([47] ++ a) ++ Lib.joinTail [47] l := rfl
    rw [e, List.length_append, List.length_append, List.length_cons]
    simp only [List.length_cons, List.length_nil]
    omega
theorem join_len (l : List (List UInt8)) (h : ∀ x ∈ l, x.length ≤ 60) : (Lib.join l [47]).length ≤ 61 * l.length := by
  cases l with
  | nil => rw [Lib.join_nil]; simp
  | cons a l =>
    rw [Lib.join_cons, List.length_append]
    have h1 := h a (by simp)
    have h2 := joinTail_len l (fun x hx => h x (by simp [hx]))
    rw [List.length_cons]
    omega
def joinS (V : List ByteArray) : ByteArray := ⟨(Lib.join (V.map (·.data.toList)) [47]).toArray⟩
/-- what Path says of the values -/
def pthE (V : List ByteArray) : Int := if V = [] then 5 else if chk nameF (joinS V) ≠ 0 then chk nameF (joinS V) else if (Lib.countByte (joinS V).data.toList 47 : Int) ≠ V.length - 1 then 1 else 0
def pathE (m : Mg) : Int := if chkM m ≠ 0 then chkM m else pthE (valsL m.opts 11)
def pathS (m : Mg) : ByteArray := if pathE m = 0 then joinS (valsL m.opts 11) else ⟨#[]⟩

set_option maxHeartbeats 4000000 in
set_option maxRecDepth 100000 in
theorem path_any (m : Mg) (ao : Option Addr) (co : Nat) (mx : Int) (w : World) (hm : w.cell? ⟨0, 0, none⟩ = some (.int .i64 mx)) (hz : 0 < w.heap.size) (hl : OptsIn w ao m.opts) :
    Calls Tryd.prog 9 #[mgV m ao co] w fun e w' => e = .returned (.tuple #[.string (pathS m), .int .i64 (pathE m)]) ∧ Below w.heap.size w w' := by
  have C : Hid (∀ W, Below w.heap.size w W → Calls Tryd.prog 27 #[mgV m ao co] W fun e w' => e = .returned (.int .i64 (chkM m)) ∧ Below W.heap.size W w') := fun W h => mcheck_any m ao co W (hl.below h)
  have CV : Hid (chkM m = 0 → ∀ W, Below w.heap.size w W → Calls Tryd.prog 31 #[mgV m ao co, .int .i64 11] W (SRow W (valsL m.opts 11))) := fun h W hW => values_any m ao co 11 W (hl.below hW) (chkM_ok h).2.2.2.2.1 fun k hk => Nat.le_trans (chk_sizes h k hk) (by decide)
  have HV : Hid (chkM m = 0 → (∀ s ∈ valsL m.opts 11, s.size ≤ 60) ∧ (valsL m.opts 11).length ≤ 12) := fun h => ⟨vals_sizes h 11, by unfold valsL; rw [List.length_map]; exact Nat.le_trans (List.length_filter_le _ _) (chkM_ok h).2.2.2.2.1⟩
  have HS : Hid (pathS m = if pathE m = 0 then joinS (valsL m.opts 11) else ⟨#[]⟩) := rfl
  have HE : Hid (pathE m = if chkM m ≠ 0 then chkM m else pthE (valsL m.opts 11)) := rfl
  have CN : Hid (∀ s W, Below w.heap.size w W → Calls Tryd.prog 33 #[.string s] W fun e w' => e = .returned (.int .i64 (chk nameF s)) ∧ Below W.heap.size W w') := fun s W hW => name_any s mx W ((hW.cell (p := ⟨0, 0, none⟩) hz).trans hm)
  clear hl hm hz
  generalize pathS m = PS at *
  generalize pathE m = PE at *
  generalize valsL m.opts 11 = V at *
  generalize chkM m = E at *
  obtain ⟨k, c, i, t, l, p⟩ := m
  simp only [mgV] at C CV ⊢
  have HB0 := hide ((Below.refl w.heap.size w).alloc (Nat.le_refl _) (.cells #[.int .i64 k, .int .i64 c, .int .i64 i, .string t, .slice ao l.length co, .string p] 24))
  have HX0 : Hid ((w.alloc (.cells #[.int .i64 k, .int .i64 c, .int .i64 i, .string t, .slice ao l.length co, .string p] 24)).heap[w.heap.size]? = some (.cells #[.int .i64 k, .int .i64 c, .int .i64 i, .string t, .slice ao l.length co, .string p] 24 (0, 0))) := Go.heap_alloc_new w _
  go_enter Tryd.func9, Tryd.ntmps9
  go_upto_region 1 with fail
  revert HB0 HX0
  generalize w.alloc (.cells #[.int .i64 k, .int .i64 c, .int .i64 i, .string t, .slice ao l.length co, .string p] 24) = W0
  intro HB0 HX0
  have q : ∀ o, W0.cell? ⟨w.heap.size, o, none⟩ = (#[.int .i64 k, .int .i64 c, .int .i64 i, .string t, .slice ao l.length co, .string p] : Array Value)[o]? := fun o => Lib.cell_of_heap HX0.out o
  go_wp2_with fail
  refine (C.out _ HB0.out).mono ?_
  rintro e w1 ⟨rfl, hb1⟩
  have HB1 := hide (below_step HB0.out hb1)
  have hx0 := (hb1.block _ (Array.getElem?_eq_some_iff.1 HX0.out).1).trans HX0.out
  have q0 : ∀ o, w1.cell? ⟨w.heap.size, o, none⟩ = (#[.int .i64 k, .int .i64 c, .int .i64 i, .string t, .slice ao l.length co, .string p] : Array Value)[o]? := fun o => Lib.cell_of_heap hx0 o
  clear hb1 hx0 HX0 q C HB0
  by_cases hE : E = 0
  · have hE' : (E != 0) = false := by simp [hE]
    have CV2 := hide (CV.out hE)
    have HV2 := hide (HV.out hE)
    have HE2 : Hid (PE = pthE V) := by have := HE.out; rw [if_neg (by simp [hE])] at this; exact this
    clear CV HV HE
    subst hE
    go_wp2_with fail
    refine (CV2.out _ HB1.out).mono ?_
    intro e w2 h2
    obtain ⟨aa, ca, rfl, hsi, hca, hb2⟩ := h2
    have HB2 := hide (below_step HB1.out hb2)
    have HSI := hide hsi
    have HCA := hide hca
    clear hsi hb2 CV2 HB1 q0 hca
    cases V with
    | nil =>
      have HE3 : Hid (PE = 5) := HE2.out
      have HS3 : Hid (PS = ⟨#[]⟩) := by have := HS.out; rw [if_neg (by rw [HE3.out]; decide)] at this; exact this
      clear HSI HV2 HCA HE2 HS CN
      go_wp2
      go_ret2
      exact ⟨by rw [HS3.out, HE3.out]; rfl, HB2.out⟩
    | cons s V =>
      obtain ⟨b, o, rfl, hb, hcell⟩ := strs_here (k := 0) HSI.out (by simp)
      have hcap : (s :: V).length ≤ ca := by
        rcases HCA.out with h | h
        · cases h
        · exact h
      have hln : (((s :: V).length : Nat) : Int) = (V.length : Int) + 1 := by simp
      have hl12 := HV2.out.2
      have CJ : Hid (Calls Tryd.prog 32 #[.slice (some ⟨b, o, none⟩) (s :: V).length ca, .string ⟨#[47]⟩] w2 fun e w' => e = .returned (.string (joinS (s :: V))) ∧ Below w2.heap.size w2 w') :=
        Tryd.strings_Join b o ca (s :: V) ⟨#[47]⟩ w2 (fun j x hx => by obtain ⟨h, rfl⟩ := List.getElem?_eq_some_iff.1 hx; exact hcell j h) hb (by omega) hcap (by
          have := join_len ((s :: V).map (·.data.toList)) (fun x hx => by
            obtain ⟨y, hy, rfl⟩ := List.mem_map.1 hx
            have := HV2.out.1 y hy
            simpa using this)
          rw [List.length_map] at this
          exact Nat.le_trans this (by omega))
      have HE3 : Hid (PE = if chk nameF (joinS (s :: V)) ≠ 0 then chk nameF (joinS (s :: V)) else if (Lib.countByte (joinS (s :: V)).data.toList 47 : Int) ≠ (s :: V).length - 1 then 1 else 0) := by
        have := HE2.out
        rw [pthE, if_neg (by simp)] at this
        exact this
      have CN2 := hide (CN.out (joinS (s :: V)))
      have CK : Hid (∀ W, Calls Tryd.prog 34 #[.string (joinS (s :: V)), .string ⟨#[47]⟩] W fun e w' => e = .returned (.int .i64 (Lib.countByte (joinS (s :: V)).data.toList 47)) ∧ w' = W) := fun W => Tryd.strings_Count_one (joinS (s :: V)) 47 W
      clear hcell HSI HV2 HCA HE2 CN
      generalize joinS (s :: V) = J at *
      generalize hNN : (s :: V).length = NN at *
      generalize chk nameF J = NE at *
      generalize Lib.countByte J.data.toList 47 = KN at *
      have hN1 : 1 ≤ NN := by rw [← hNN]; simp
      clear hNN hln
      go_wp2_with fail
      refine CJ.out.mono ?_
      rintro e w3 ⟨rfl, hb3⟩
      have HB3 := hide (below_step HB2.out hb3)
      clear hb3 CJ
      go_wp2_with fail
      refine (CN2.out _ HB3.out).mono ?_
      rintro e w4 ⟨rfl, hb4⟩
      have HB4 := hide (below_step HB3.out hb4)
      clear hb4 CN2
      by_cases hNE : NE = 0
      · have hNE' : (NE != 0) = false := by simp [hNE]
        have HE4 : Hid (PE = if (KN : Int) ≠ NN - 1 then 1 else 0) := by have := HE3.out; rw [if_neg (by simp [hNE])] at this; exact this
        subst hNE
        clear HE3
        by_cases hK : (KN : Int) = NN - 1
        · have HE5 : Hid (PE = 0) := by have := HE4.out; rw [if_neg (by simp [hK])] at this; exact this
          have HS5 : Hid (PS = J) := by have := HS.out; rw [if_pos HE5.out] at this; exact this
          have hK' : ((KN : Int) != NN - 1) = false := by simp [hK]
          clear HE4 HS hK
          go_wp2_with (go_at_call 34; refine (CK.out _).mono ?_; rintro e w5 ⟨rfl, h5⟩; subst h5)
          go_ret2
          exact ⟨by rw [HS5.out, HE5.out]; rfl, HB4.out⟩
        · have HE5 : Hid (PE = 1) := by have := HE4.out; rw [if_pos hK] at this; exact this
          have HS5 : Hid (PS = ⟨#[]⟩) := by have := HS.out; rw [if_neg (by rw [HE5.out]; decide)] at this; exact this
          have hK' : ((KN : Int) != NN - 1) = true := by simp [hK]
          clear HE4 HS hK
          go_wp2_with (go_at_call 34; refine (CK.out _).mono ?_; rintro e w5 ⟨rfl, h5⟩; subst h5)
          go_ret2
          exact ⟨by rw [HS5.out, HE5.out]; rfl, HB4.out⟩
      · have hNE' : (NE != 0) = true := by simp [hNE]
        have HE4 : Hid (PE = NE) := by have := HE3.out; rw [if_pos hNE] at this; exact this
        have HS4 : Hid (PS = ⟨#[]⟩) := by have := HS.out; rw [if_neg (by rw [HE4.out]; exact hNE)] at this; exact this
        clear HE3 HS hNE CK
        go_wp2
        go_ret2
        exact ⟨by rw [HS4.out, HE4.out]; rfl, HB4.out⟩
  · have hE' : (E != 0) = true := by simp [hE]
    have HE2 : Hid (PE = E) := by have := HE.out; rw [if_pos hE] at this; exact this
    have HS2 : Hid (PS = ⟨#[]⟩) := by have := HS.out; rw [if_neg (by rw [HE2.out]; exact hE)] at this; exact this
    clear CV HV HE HS CN hE
    go_wp2
    go_ret2
    exact ⟨by rw [HS2.out, HE2.out]; rfl, HB1.out⟩
end Go.Proofs.YtgmjdelgocbcaacDoor
