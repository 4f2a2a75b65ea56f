/-
  session.isSettled, session.Check: what they answer.
-/
import Derived.Test.YtnhcecgmcmcioaaDoorSesCheck
namespace Go.Proofs.YtnhcecgmcmcioaaDoor
open Go.RowKit Go.PlainAid

/-- a session's fields in block b; its two lists' values -/
def SAt (b : Nat) (s : Se) (va vb : Value) (w : World) : Prop := w.heap[b]? = some (.cells #[.string s.client, .bool s.on, .bool s.clean, va, vb, .int .i64 s.next] 24 (0, 0))
theorem SAt.lt {b : Nat} {s : Se} {va vb : Value} {w : World} (h : SAt b s va vb w) : b < w.heap.size := (Array.getElem?_eq_some_iff.1 h).1
theorem SAt.cell {b : Nat} {s : Se} {va vb : Value} {w : World} (h : SAt b s va vb w) (o : Nat) : w.cell? ⟨b, o, none⟩ = (#[.string s.client, .bool s.on, .bool s.clean, va, vb, .int .i64 s.next] : Array Value)[o]? := Lib.cell_of_heap h o
theorem SAt.frozen {b : Nat} {s : Se} {va vb : Value} {w : World} (h : SAt b s va vb w) (o : Nat) : w.frozen? ⟨b, o, none⟩ = false := Lib.frozen_of_heap h o
theorem SAt.after {b : Nat} {s : Se} {va vb : Value} {w w' : World} (h : SAt b s va vb w) (hb : Below w.heap.size w w') : SAt b s va vb w' := by
  have := h.lt; unfold SAt at *; rw [hb.block b this]; exact h
theorem sat_new (s : Se) (va vb : Value) (w : World) : SAt w.heap.size s va vb (w.alloc (.cells #[.string s.client, .bool s.on, .bool s.clean, va, vb, .int .i64 s.next] 24)) := Go.heap_alloc_new w _

set_option maxHeartbeats 4000000 in
theorem isSettled_any (s : Se) (aa ab : Option Addr) (ca cb : Nat) (w : World) :
    Calls Tryd.prog 41 #[seV s aa ca ab cb] w fun e w' => e = .returned (.bool (settled s)) ∧ Below w.heap.size w w' := by
  obtain ⟨cl, on, clean, fl, qu, nx⟩ := s
  simp only [seV, settled]
  have HB := hide ((Below.refl w.heap.size w).alloc (Nat.le_refl _) (.cells #[.string cl, .bool on, .bool clean, .slice aa fl.length ca, .slice ab qu.length cb, .int .i64 nx] 24))
  have q0 : ((qu.length : Int) == 0) = decide (qu.length = 0) := by rw [Bool.eq_iff_iff]; simp
  have f0 : ((fl.length : Int) == 0) = decide (fl.length = 0) := by rw [Bool.eq_iff_iff]; simp
  have f3 : ((fl.length : Int) == 3) = decide (fl.length = 3) := by rw [Bool.eq_iff_iff]; simp; omega
  generalize decide (qu.length = 0) = Q0 at *
  generalize decide (fl.length = 0) = F0 at *
  generalize decide (fl.length = 3) = F3 at *
  cases on with
  | true =>
    cases Q0 with
    | true =>
      go_enter Tryd.func41, Tryd.ntmps41
      go_wp2
      go_ret
      exact ⟨rfl, HB.out⟩
    | false =>
      go_enter Tryd.func41, Tryd.ntmps41
      go_wp2
      go_ret
      exact ⟨rfl, HB.out⟩
  | false =>
    cases clean with
    | false =>
      go_enter Tryd.func41, Tryd.ntmps41
      go_wp2
      go_ret
      exact ⟨rfl, HB.out⟩
    | true =>
      cases F0 with
      | true =>
        go_enter Tryd.func41, Tryd.ntmps41
        go_wp2
        go_ret
        exact ⟨rfl, HB.out⟩
      | false =>
        go_enter Tryd.func41, Tryd.ntmps41
        go_wp2
        go_ret
        exact ⟨rfl, HB.out⟩

set_option maxHeartbeats 8000000 in
theorem scheck_any (s : Se) (aa ab : Option Addr) (ca cb : Nat) (w : World) (hs : SeIn w s aa ab) (hca : s.fl.length ≤ ca) (hm : Max w) :
    Calls Tryd.prog 16 #[seV s aa ca ab cb] w fun e w' => e = .returned (.int .i64 (chkS s)) ∧ Below w.heap.size w w' := by
  have CN := hide (fun W (h : Below w.heap.size w W) => sesName_any s.client W (hm.below h))
  have CF := hide (fun (hn : s.fl.length ≤ 1048576) W (h : Below w.heap.size w W) => checkFlights_any s.fl aa ca W (hs.1.below h) hn hca (hm.below h))
  have CQ := hide (fun (hn : s.qu.length ≤ 1048576) W (h : Below w.heap.size w W) => checkQueue_any s.qu ab cb W (hs.2.below h) (by omega) (hm.below h))
  have CI := hide (fun W => isId_any s.next W)
  have CS := hide (fun W => isSettled_any s aa ab ca cb W)
  have D0 := hide (sat_new s (.slice aa s.fl.length ca) (.slice ab s.qu.length cb) w)
  have HB0 := hide ((Below.refl w.heap.size w).alloc (Nat.le_refl _) (.cells #[.string s.client, .bool s.on, .bool s.clean, .slice aa s.fl.length ca, .slice ab s.qu.length cb, .int .i64 s.next] 24))
  have hE : chkS s = if clB s.client = false then 1 else if 3 < s.fl.length ∨ 6 < s.qu.length then 2 else if fchkL [] s.fl ≠ 0 then fchkL [] s.fl else if qchkL s.qu ≠ 0 then qchkL s.qu else if idOk s.next = false then 3 else if settled s = false then 4 else 0 := rfl
  have HE := hide hE
  clear hE hs hca hm
  generalize chkS s = E at *
  simp only [seV] at CS ⊢
  generalize clB s.client = N at *
  generalize fchkL [] s.fl = F at *
  generalize qchkL s.qu = Q at *
  generalize idOk s.next = I at *
  generalize settled s = S at *
  go_enter Tryd.func16, Tryd.ntmps16
  go_upto_region 1 with fail
  revert D0 HB0
  generalize w.alloc (.cells #[.string s.client, .bool s.on, .bool s.clean, .slice aa s.fl.length ca, .slice ab s.qu.length cb, .int .i64 s.next] 24) = W0
  intro D0 HB0
  have x1 := D0.out.cell
  go_wp2_with fail
  refine (CN.out _ HB0.out).mono ?_
  rintro e w1 ⟨rfl, hb⟩
  have D1 := hide (D0.out.after hb)
  have HB1 := hide (below_step HB0.out hb)
  clear hb x1 D0 HB0 CN
  cases N with
  | false =>
    have HE := hide (HE.out.trans (if_pos rfl))
    go_wp2
    go_ret
    exact ⟨by rw [HE.out]; rfl, HB1.out⟩
  | true =>
    have HE := hide (HE.out.trans (if_neg (by simp)))
    have x1 := D1.out.cell
    by_cases h3 : 3 < s.fl.length
    · have HE := hide (HE.out.trans (if_pos (.inl h3)))
      have h3' : (3 : Int) < s.fl.length := by omega
      clear h3
      go_wp2
      go_ret
      exact ⟨by rw [HE.out]; rfl, HB1.out⟩
    · have h3' : ¬ (3 : Int) < s.fl.length := by omega
      by_cases h6 : 6 < s.qu.length
      · have HE := hide (HE.out.trans (if_pos (.inr h6)))
        have h6' : (6 : Int) < s.qu.length := by omega
        clear h6 h3
        go_wp2
        go_ret
        exact ⟨by rw [HE.out]; rfl, HB1.out⟩
      · have HE := hide (HE.out.trans (if_neg (by omega)))
        have h6' : ¬ (6 : Int) < s.qu.length := by omega
        have CF := hide (CF.out (by omega))
        have CQ := hide (CQ.out (by omega))
        clear h3 h6
        go_wp2_with fail
        refine (CF.out _ HB1.out).mono ?_
        rintro e w2 ⟨rfl, hb⟩
        have D2 := hide (D1.out.after hb)
        have HB2 := hide (below_step HB1.out hb)
        clear hb x1 D1 HB1 CF
        by_cases hF : F = 0
        · have hF' : (F != 0) = false := by simp [hF]
          have HE := hide (HE.out.trans (if_neg (by simp [hF])))
          have x1 := D2.out.cell
          clear hF
          go_wp2_with fail
          refine (CQ.out _ HB2.out).mono ?_
          rintro e w3 ⟨rfl, hb⟩
          have D3 := hide (D2.out.after hb)
          have HB3 := hide (below_step HB2.out hb)
          clear hb x1 D2 HB2 CQ
          by_cases hQ : Q = 0
          · have hQ' : (Q != 0) = false := by simp [hQ]
            have HE := hide (HE.out.trans (if_neg (by simp [hQ])))
            have x1 := D3.out.cell
            clear hQ
            go_wp2_with fail
            refine (CI.out _).mono ?_
            rintro e w4 ⟨rfl, hw⟩
            subst w4
            cases I with
            | false =>
              have HE := hide (HE.out.trans (if_pos rfl))
              go_wp2
              go_ret
              exact ⟨by rw [HE.out]; rfl, HB3.out⟩
            | true =>
              have HE := hide (HE.out.trans (if_neg (by simp)))
              go_wp2_with fail
              refine (CS.out _).mono ?_
              rintro e w5 ⟨rfl, hb⟩
              have HB5 := hide (below_step HB3.out hb)
              clear hb x1 D3 HB3
              cases S with
              | false =>
                have HE := hide (HE.out.trans (if_pos rfl))
                go_wp2
                go_ret
                exact ⟨by rw [HE.out]; rfl, HB5.out⟩
              | true =>
                have HE := hide (HE.out.trans (if_neg (by simp)))
                go_wp2
                go_ret
                exact ⟨by rw [HE.out]; rfl, HB5.out⟩
          · have hQ' : (Q != 0) = true := by simp [hQ]
            have HE := hide (HE.out.trans (if_pos hQ))
            clear hQ
            go_wp2
            go_ret
            exact ⟨by rw [HE.out]; rfl, HB3.out⟩
        · have hF' : (F != 0) = true := by simp [hF]
          have HE := hide (HE.out.trans (if_pos hF))
          clear hF
          go_wp2
          go_ret
          exact ⟨by rw [HE.out]; rfl, HB2.out⟩
end Go.Proofs.YtnhcecgmcmcioaaDoor
