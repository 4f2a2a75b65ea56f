/-
  Package session's small calls: isId, behind, checkTold, isName, isSettled, isOf.
-/
import Derived.Test.YtnhcecgmcmcioaaDoorSesMath
import Derived.Test.YtnhcecgmcmcioaaDoorPacketCheck
import Derived.Deep.RegionHeld3
namespace Go.Proofs.YtnhcecgmcmcioaaDoor
open Go.RowKit Go.PlainAid

theorem isId_any (n : Int) (w : World) : Calls Tryd.prog 40 #[.int .i64 n] w fun e w' => e = .returned (.bool (idOk n)) ∧ w' = w := by
  unfold idOk
  by_cases h : 1 ≤ n
  · have h1 : decide (1 ≤ n) = true := by simp [h]
    rw [h1]
    go_enter Tryd.func40, Tryd.ntmps40
    go_wp2
    go_ret
    exact ⟨by simp, rfl⟩
  · have h1 : decide (1 ≤ n) = false := by simp [h]
    rw [h1]
    go_enter Tryd.func40, Tryd.ntmps40
    go_wp2
    go_ret
    exact ⟨by simp, rfl⟩
/-- behind an Id -/
def nxt (n : Int) : Int := if n = 65535 then 1 else n + 1
theorem behind_any (n : Int) (w : World) (h : 0 ≤ n ∧ n ≤ 65535) : Calls Tryd.prog 48 #[.int .i64 n] w fun e w' => e = .returned (.int .i64 (nxt n)) ∧ w' = w := by
  unfold nxt
  by_cases h1 : n = 65535
  · subst h1
    go_enter Tryd.func48, Tryd.ntmps48
    go_wp2
    go_ret
    exact ⟨rfl, rfl⟩
  · have h2 : (n == 65535) = false := by simp [h1]
    rw [if_neg h1]
    obtain ⟨h3, h4⟩ := h
    clear h1
    go_enter Tryd.func48, Tryd.ntmps48
    go_wp2
    go_ret
    exact ⟨rfl, rfl⟩
theorem checkTold_any (t p : ByteArray) (w : World) (hm : Max w) : Calls Tryd.prog 45 #[.string t, .string p] w fun e w' => e = .returned (.int .i64 (toldE t p)) ∧ Below w.heap.size w w' := by
  have C := hide (name_max t w hm)
  unfold toldE
  generalize chk nameF t = E at *
  clear hm
  by_cases h : E = 0
  · have h1 : (E != 0) = false := by simp [h]
    rw [if_neg (by simp [h])]
    subst h
    by_cases h2 : 200 < p.size
    · rw [if_pos h2]
      have h3 : (200 : Int) < p.size := by omega
      clear h2
      go_enter Tryd.func45, Tryd.ntmps45
      go_wp2_with fail
      refine C.out.mono ?_
      rintro e w1 ⟨rfl, hb⟩
      have HB := hide hb
      clear hb
      go_wp2
      go_ret
      exact ⟨rfl, HB.out⟩
    · rw [if_neg h2]
      have h3 : ¬ (200 : Int) < p.size := by omega
      clear h2
      go_enter Tryd.func45, Tryd.ntmps45
      go_wp2_with fail
      refine C.out.mono ?_
      rintro e w1 ⟨rfl, hb⟩
      have HB := hide hb
      clear hb
      go_wp2
      go_ret
      exact ⟨rfl, HB.out⟩
  · have h1 : (E != 0) = true := by simp [h]
    rw [if_pos h]
    clear h
    go_enter Tryd.func45, Tryd.ntmps45
    go_wp2_with fail
    refine C.out.mono ?_
    rintro e w1 ⟨rfl, hb⟩
    have HB := hide hb
    clear hb
    go_wp2
    go_ret
    exact ⟨rfl, HB.out⟩

theorem clB_chk (s : ByteArray) : (chkP ⟨1, false, false, false, false, 0, 0, 0, 0, s, ⟨#[]⟩, ⟨#[]⟩, [], []⟩ == 0) = clB s := by
  have e : chkP ⟨1, false, false, false, false, 0, 0, 0, 0, s, ⟨#[]⟩, ⟨#[]⟩, [], []⟩ = if 20 < s.size then 2 else if nameB s = false then 1 else 0 := rfl
  rw [e]
  unfold clB
  by_cases h : 20 < s.size
  · rw [if_pos h, decide_eq_false (by omega)]; rfl
  · rw [if_neg h, decide_eq_true (by omega)]
    cases nameB s <;> rfl
theorem sesName_any (s : ByteArray) (w : World) (hm : Max w) : Calls Tryd.prog 37 #[.string s] w fun e w' => e = .returned (.bool (clB s)) ∧ Below w.heap.size w w' := by
  have C := hide (check_any ⟨1, false, false, false, false, 0, 0, 0, 0, s, ⟨#[]⟩, ⟨#[]⟩, [], []⟩ none none 0 0 w hm ⟨.inl rfl, .inl rfl⟩)
  have HE := hide (clB_chk s)
  revert C HE
  generalize chkP ⟨1, false, false, false, false, 0, 0, 0, 0, s, ⟨#[]⟩, ⟨#[]⟩, [], []⟩ = E
  intro C HE
  simp only [pkV, List.length_nil] at C
  clear hm
  go_enter Tryd.func37, Tryd.ntmps37
  go_wp2_with fail
  refine C.out.mono ?_
  rintro e w1 ⟨rfl, hb⟩
  have HB := hide hb
  clear hb
  go_wp2
  go_ret
  exact ⟨by rw [← HE.out]; rfl, HB.out⟩

theorem lit_ses (f : Fl) (c : Nat) (id : Int) (w : World) (h : w.cell? ⟨c, 0, none⟩ = some (.int .i64 id)) (hc : c < w.heap.size) : Calls Tryd.prog 66 #[flV f, .pointer (some ⟨c, 0, none⟩)] w fun e w' => e = .returned (.bool (isI id f)) ∧ Below w.heap.size w w' := by
  obtain ⟨n, t, p⟩ := f
  have hne : c ≠ w.heap.size := by omega
  have q0 := (World.cell?_alloc_old w (.cells #[.int .i64 n, .string t, .string p] 46) ⟨c, 0, none⟩ (by show c ≠ _; exact hne)).trans h
  simp only [flV, isI]
  clear hc
  go_enter Tryd.func66, Tryd.ntmps66
  go_wp2
  go_ret
  exact ⟨rfl, (Below.refl _ _).alloc (Nat.le_refl _) _⟩

set_option maxHeartbeats 2000000 in
theorem findex_any (l : List Fl) (ao : Option Addr) (co c : Nat) (id : Int) (w : World) (hl : FlsIn w ao l) (hn : l.length ≤ 1152921504606846976) (hA : w.cell? ⟨c, 0, none⟩ = some (.int .i64 id)) (hc : c < w.heap.size) :
    Calls Tryd.prog 50 #[.slice ao l.length co, .func (.func 66) #[] #[.pointer (some ⟨c, 0, none⟩)]] w fun e w' => e = .returned (.int .i64 (idxF id 0 l)) ∧ Below w.heap.size w w' := by
  generalize hE : idxF id 0 l = E
  have HE := hide hE
  have HL := hide hl
  have CL : Hid (∀ k W, Below w.heap.size w W → Calls Tryd.prog 66 #[flV k, .pointer (some ⟨c, 0, none⟩)] W fun e w' => e = .returned (.bool (isI id k)) ∧ Below W.heap.size W w') := fun k W h => lit_ses k c id W ((h.cell (p := ⟨c, 0, none⟩) hc).trans hA) (Nat.lt_of_lt_of_le hc h.size)
  clear hE hl hA hc
  go_enter Tryd.func50, Tryd.ntmps50
  go_wp2
  go_loopw [8] (fun i wr => ∃ k : Nat, k ≤ l.length ∧ i = .int .i64 k ∧ Hid (idxF id k (l.drop k) = E ∧ Below w.heap.size w wr)) (fun i _ => l.length - (intOf i).toNat)
  case atStart => exact ⟨0, by omega, rfl, HE.out, Below.refl _ _⟩
  case round =>
    obtain ⟨k, hk, rfl, HR⟩ := hrel
    have hsz := HR.out.2.size
    by_cases hlt : k < l.length
    · obtain ⟨b, o, rfl, hb, hcell⟩ := fls_here HL.out hlt
      have hk1 : wr.cell? ⟨b, o + k * 3, none⟩ = some (.int .i64 l[k].id) := by rw [HR.out.2.cell (p := ⟨b, _, none⟩) hb]; exact (hcell k hlt).1
      have hk2 : wr.cell? ⟨b, o + k * 3 + 1, none⟩ = some (.string l[k].topic) := by rw [HR.out.2.cell (p := ⟨b, _, none⟩) hb]; exact (hcell k hlt).2.1
      have hk3 : wr.cell? ⟨b, o + k * 3 + 2, none⟩ = some (.string l[k].load) := by rw [HR.out.2.cell (p := ⟨b, _, none⟩) hb]; exact (hcell k hlt).2.2
      have HS : Hid (_ = E) := (idxF_step id l k hlt).symm.trans HR.out.1
      clear hcell HL HE
      have C := hide (CL.out l[k])
      clear CL
      generalize l[k] = x at *
      generalize hB : isI id x = B at *
      clear hB
      obtain ⟨xp, xt, xn⟩ := x
      simp only [flV] at hk1 hk2 hk3 C
      cases B with
      | false =>
        have HQ : Hid (idxF id (k + 1) (l.drop (k + 1)) = E) := by have := HS.out; rwa [if_neg (by simp)] at this
        go_wp2_with fail
        refine (C.out _ HR.out.2).mono ?_
        rintro e w1 ⟨rfl, hb1⟩
        have HB1 := hide (HR.out.2.trans (hb1.mono hsz))
        clear hb1
        go_wp2
        go_round
        case rel => exact ⟨k + 1, by omega, by go_num, HQ.out, HB1.out⟩
        case measure => simp [intOf]; omega
      | true =>
        have HQ : Hid (E = k) := by have := HS.out; rw [if_pos rfl] at this; exact this.symm
        go_wp2_with fail
        refine (C.out _ HR.out.2).mono ?_
        rintro e w1 ⟨rfl, hb1⟩
        have HB1 := hide (HR.out.2.trans (hb1.mono hsz))
        clear hb1
        go_wp2
        go_ret
        exact ⟨by rw [HQ.out]; rfl, HB1.out⟩
    · have hke : l.drop k = [] := List.drop_eq_nil_of_le (by omega)
      have HQ : Hid (E = -1) := by have := HR.out.1; rw [hke, idxF] at this; exact this.symm
      clear hke
      go_wp2
      go_ret
      exact ⟨by rw [HQ.out]; rfl, HR.out.2⟩

theorem fcontains_any (l : List Fl) (ao : Option Addr) (co c : Nat) (id : Int) (w : World) (hl : FlsIn w ao l) (hn : l.length ≤ 1152921504606846976) (hA : w.cell? ⟨c, 0, none⟩ = some (.int .i64 id)) (hc : c < w.heap.size) :
    Calls Tryd.prog 65 #[.slice ao l.length co, .func (.func 66) #[] #[.pointer (some ⟨c, 0, none⟩)]] w fun e w' => e = .returned (.bool (l.any (isI id))) ∧ Below w.heap.size w w' := by
  have C := hide (findex_any l ao co c id w hl hn hA hc)
  have HI := hide (idxF_at id l 0)
  revert C HI
  generalize idxF id 0 l = I
  generalize l.any (isI id) = B
  intro C HI
  clear hl hA hc
  go_enter Tryd.func65, Tryd.ntmps65
  go_wp2_with fail
  refine C.out.mono ?_
  rintro e w1 ⟨rfl, hb1⟩
  have HB1 := hide hb1
  clear hb1
  go_wp2
  go_ret
  exact ⟨by rw [← HI.out]; rfl, HB1.out⟩
theorem sesIsOf_any (l : List Fl) (ao : Option Addr) (co : Nat) (id : Int) (w : World) (hl : FlsIn w ao l) (hn : l.length ≤ 1152921504606846976) :
    Calls Tryd.prog 52 #[.slice ao l.length co, .int .i64 id] w fun e w' => e = .returned (.bool (l.any (isI id))) ∧ Below w.heap.size w w' := by
  have hb0 : Below w.heap.size w (w.alloc (.cells #[.int .i64 id] 3)) := (Below.refl _ _).alloc (Nat.le_refl _) _
  have C := hide (fcontains_any l ao co w.heap.size id (w.alloc (.cells #[.int .i64 id] 3)) (hl.below hb0) hn (by simp) (by simp))
  have HB0 := hide hb0
  clear hb0 hl
  generalize l.any (isI id) = B at *
  go_enter Tryd.func52, Tryd.ntmps52
  go_wp2_with fail
  refine C.out.mono ?_
  rintro e w1 ⟨rfl, hb1⟩
  have HB1 := hide (below_step HB0.out hb1)
  clear hb1
  go_wp2
  go_ret
  exact ⟨rfl, HB1.out⟩
end Go.Proofs.YtnhcecgmcmcioaaDoor
