/-
  block.Join and what it calls: the function literal of its sizes, inLine, fill: what they answer.
-/
import Derived.Test.YtcldjoklkbbbgadBlkCut
import Derived.Deep.QuietTactic
import Derived.BigQuiet
import Derived.Deep.RegionWith
import Derived.BigRegion
namespace Go.Proofs.Ytcldjoklkbbbgad
open Go.RowKit Go.PlainAid

set_option maxHeartbeats 1000000 in
theorem joinLit_any (b : Bk) (w : World) : Calls Try.prog 17 #[bkV b] w fun e w' => e = .returned (.bool (!szOk b.size)) ∧ Below w.heap.size w w' := by
  obtain ⟨n, m, s⟩ := b
  simp only [bkV]
  have C := hide (fun W => isSize_any s W)
  have HB := hide ((Below.refl w.heap.size w).alloc (Nat.le_refl _) (.cells #[.int .i64 n, .bool m, .int .i64 s] 25))
  revert C
  generalize szOk s = B
  intro C
  go_enter Try.func17, Try.ntmps17
  go_wp2_with fail
  refine (C.out _).mono ?_
  rintro e w1 ⟨rfl, h1⟩
  subst h1
  go_wp2
  go_ret
  exact ⟨rfl, HB.out⟩

def idxF : Nat → List Bk → Int
  | _, [] => -1
  | i, b :: l => if szOk b.size then idxF (i + 1) l else i
theorem idxF_step (l : List Bk) (k : Nat) (h : k < l.length) : idxF k (l.drop k) = if szOk l[k].size then idxF (k + 1) (l.drop (k + 1)) else k := by
  rw [List.drop_eq_getElem_cons h, idxF]
theorem idxF_at : ∀ (l : List Bk) (i : Nat), decide (0 ≤ idxF i l) = !(l.all fun b => szOk b.size)
  | [], i => by simp [idxF]
  | b :: l, i => by
    rw [idxF, List.all_cons]
    cases h : szOk b.size with
    | true => simp only [if_true, Bool.true_and]; exact idxF_at l (i + 1)
    | false => simp
theorem sizesOk_all (l : List Bk) : sizesOk l = l.all fun b => szOk b.size := by
  rw [Bool.eq_iff_iff, sizesOk, upTo_iff, List.all_eq_true]
  constructor
  · intro h b hb
    obtain ⟨i, hi, rfl⟩ := List.mem_iff_getElem.1 hb
    have := h i hi
    rwa [bkAt_eq _ _ hi] at this
  · intro h i hi
    show szOk (bkAt l i).size = true
    rw [bkAt_eq _ _ hi]
    exact h _ (List.getElem_mem hi)
theorem idxF_sizes (l : List Bk) : decide (0 ≤ idxF 0 l) = !sizesOk l := by rw [idxF_at, sizesOk_all]

theorem bks_here {w : World} {ao : Option Addr} {l : List Bk} {k : Nat} (h : BksIn w ao l) (hlt : k < l.length) : ∃ b o, ao = some ⟨b, o, none⟩ ∧ b < w.heap.size ∧ ∀ i (h : i < l.length), w.cell? ⟨b, o + i * 3, none⟩ = some (.int .i64 l[i].num) ∧ w.cell? ⟨b, o + i * 3 + 1, none⟩ = some (.bool l[i].more) ∧ w.cell? ⟨b, o + i * 3 + 2, none⟩ = some (.int .i64 l[i].size) := by
  rcases h with rfl | h
  · simp at hlt
  · exact h

set_option maxHeartbeats 2000000 in
theorem indexFunc_any (l : List Bk) (ao : Option Addr) (co : Nat) (w : World) (hl : BksIn w ao l) (hn : l.length ≤ 1152921504606846976) :
    Calls Try.prog 23 #[.slice ao l.length co, .func (.func 17) #[] #[]] w fun e w' => e = .returned (.int .i64 (idxF 0 l)) ∧ Below w.heap.size w w' := by
  generalize hE : idxF 0 l = E
  have HE := hide hE
  have HL := hide hl
  clear hE hl
  go_enter Try.func23, Try.ntmps23
  go_wp2
  go_loopw [8] (fun i wr => ∃ k : Nat, k ≤ l.length ∧ i = .int .i64 k ∧ Hid (idxF k (l.drop k) = E ∧ Below w.heap.size w wr)) (fun i _ => l.length - (intOf i).toNat)
  case atStart => exact ⟨0, by omega, rfl, HE.out, Below.refl _ _⟩
  case round =>
    obtain ⟨k, hk, rfl, HR⟩ := hrel
    have hsz := HR.out.2.size
    by_cases hlt : k < l.length
    · obtain ⟨b, o, rfl, hb, hcell⟩ := bks_here HL.out hlt
      have hk1 : wr.cell? ⟨b, o + k * 3, none⟩ = some (.int .i64 l[k].num) := by rw [HR.out.2.cell (p := ⟨b, _, none⟩) hb]; exact (hcell k hlt).1
      have hk2 : wr.cell? ⟨b, o + k * 3 + 1, none⟩ = some (.bool l[k].more) := by rw [HR.out.2.cell (p := ⟨b, _, none⟩) hb]; exact (hcell k hlt).2.1
      have hk3 : wr.cell? ⟨b, o + k * 3 + 2, none⟩ = some (.int .i64 l[k].size) := by rw [HR.out.2.cell (p := ⟨b, _, none⟩) hb]; exact (hcell k hlt).2.2
      have HS : Hid (_ = E) := (idxF_step l k hlt).symm.trans HR.out.1
      clear hcell HL HE
      generalize l[k] = x at *
      have C := hide (fun W => joinLit_any x W)
      obtain ⟨n, m, s⟩ := x
      simp only [bkV] at hk1 hk2 hk3 HS C
      revert C HS
      generalize szOk s = B
      intro HS C
      cases B with
      | true =>
        have HQ : Hid (idxF (k + 1) (l.drop (k + 1)) = E) := by have := HS.out; rwa [if_pos rfl] at this
        go_wp2_with fail
        refine (C.out _).mono ?_
        rintro e w1 ⟨rfl, hb1⟩
        have HB1 := hide (HR.out.2.trans (hb1.mono hsz))
        clear hb1
        go_wp2
        go_round
        case rel => exact ⟨k + 1, by omega, by go_num, HQ.out, HB1.out⟩
        case measure => simp [intOf]; omega
      | false =>
        have HQ : Hid (E = k) := by have := HS.out; rw [if_neg (by simp)] at this; exact this.symm
        go_wp2_with fail
        refine (C.out _).mono ?_
        rintro e w1 ⟨rfl, hb1⟩
        have HB1 := hide (HR.out.2.trans (hb1.mono hsz))
        clear hb1
        go_wp2
        go_ret
        exact ⟨by rw [HQ.out]; rfl, HB1.out⟩
    · have hke : l.drop k = [] := List.drop_eq_nil_of_le (by omega)
      have HQ : Hid (E = -1) := by have := HR.out.1; rw [hke, idxF] at this; exact this.symm
      clear hke
      go_wp2
      go_ret
      exact ⟨by rw [HQ.out]; rfl, HR.out.2⟩

theorem containsFunc_any (l : List Bk) (ao : Option Addr) (co : Nat) (w : World) (hl : BksIn w ao l) (hn : l.length ≤ 1152921504606846976) :
    Calls Try.prog 16 #[.slice ao l.length co, .func (.func 17) #[] #[]] w fun e w' => e = .returned (.bool (!sizesOk l)) ∧ Below w.heap.size w w' := by
  have C := hide (fun W h => indexFunc_any l ao co W h hn)
  have HI := hide (idxF_sizes l)
  revert C HI
  generalize idxF 0 l = I
  generalize sizesOk l = B
  intro C HI
  have HL := hide hl
  clear hl
  go_enter Try.func16, Try.ntmps16
  go_wp2_with fail
  refine (C.out _ HL.out).mono ?_
  rintro e w1 ⟨rfl, hb1⟩
  have HB1 := hide hb1
  clear hb1
  go_wp2
  go_ret
  exact ⟨by rw [← HI.out]; rfl, HB1.out⟩

theorem below_drewN {N : Nat} {w w' : World} (h : Below N w w') (n : Nat) : Below N w (w'.drewN n) := ⟨h.os, h.tape, h.output, h.size, h.block⟩

set_option maxHeartbeats 2000000 in
theorem inLine_any (l : List Bk) (ao : Option Addr) (co : Nat) (w : World) (hl : BksIn w ao l) (hn : l.length ≤ 1152921504606846976) :
    Calls Try.prog 18 #[.slice ao l.length co] w fun e w' => e = .returned (.bool (linesOk l)) ∧ Below w.heap.size w w' := by
  generalize hE : linesOk l = E
  have HE := hide hE
  have HL := hide hl
  clear hE hl
  go_enter Try.func18, Try.ntmps18
  go_wp2
  go_loopw [8] (fun i wr => ∃ k : Nat, k ≤ l.length ∧ i = .int .i64 k ∧ Hid (upTo (lineAt l) k = true ∧ Below w.heap.size w wr)) (fun i _ => l.length - (intOf i).toNat)
  case atStart => exact ⟨0, by omega, rfl, upTo_zero _, Below.refl _ _⟩
  case round =>
    obtain ⟨k, hk, rfl, HR⟩ := hrel
    have hsz := HR.out.2.size
    by_cases hlt : k < l.length
    · obtain ⟨b, o, rfl, hb, hcell⟩ := bks_here HL.out hlt
      have hbr : b < wr.heap.size := by omega
      have hk1 : wr.cell? ⟨b, o + k * 3, none⟩ = some (.int .i64 l[k].num) := by rw [HR.out.2.cell (p := ⟨b, _, none⟩) hb]; exact (hcell k hlt).1
      have hk2 : wr.cell? ⟨b, o + k * 3 + 1, none⟩ = some (.bool l[k].more) := by rw [HR.out.2.cell (p := ⟨b, _, none⟩) hb]; exact (hcell k hlt).2.1
      have hk3 : wr.cell? ⟨b, o + k * 3 + 2, none⟩ = some (.int .i64 l[k].size) := by rw [HR.out.2.cell (p := ⟨b, _, none⟩) hb]; exact (hcell k hlt).2.2
      have hz3 : wr.cell? ⟨b, o + 2, none⟩ = some (.int .i64 l[0].size) := by
        have := (hcell 0 (by omega)).2.2
        rw [HR.out.2.cell (p := ⟨b, _, none⟩) hb]
        simpa using this
      have HA : Hid (lineAt l k = (decide (l[k].size = l[0].size) && decide (l[k].num = k) && (l[k].more == decide (k + 1 < l.length)))) := by
        show _ = _
        unfold lineAt
        rw [bkAt_eq _ _ hlt, bkAt_eq _ _ (show 0 < l.length by omega)]
      have HB := hide (HR.out.2.alloc hsz (.cells #[.int .i64 l[k].num, .bool l[k].more, .int .i64 l[k].size] 25))
      clear hcell HL
      generalize l[k] = x at *
      generalize l[0] = y at *
      obtain ⟨n, m, s⟩ := x
      obtain ⟨n0, m0, s0⟩ := y
      simp only at hk1 hk2 hk3 hz3 HA HB
      by_cases h1 : s = s0
      · have h1' : (s != s0) = false := by simp [h1]
        by_cases h2 : n = k
        · have h2' : (n != k) = false := by simp [h2]
          by_cases h3 : m = decide (k + 1 < l.length)
          · have HQ : Hid (upTo (lineAt l) (k + 1) = true) := upTo_more HR.out.1 (by rw [HA.out]; simp [h1, h2, h3])
            have h3' : (m == ((k : Int) == (l.length : Int) - 1)) = false := by
              rw [h3]
              by_cases q : k + 1 < l.length
              · have : ((k : Int) == (l.length : Int) - 1) = false := by simp; omega
                rw [this]; simp [q]
              · have : ((k : Int) == (l.length : Int) - 1) = true := by simp; omega
                rw [this]; simp [q]
            clear h1 h2 h3
            go_wp2_with fail
            go_big_quiet (fail)
            go_wp2
            go_round
            case rel => exact ⟨k + 1, by omega, by go_num, HQ.out, below_drewN HB.out _⟩
            case measure => simp [intOf]; omega
          · have HQ : Hid (E = false) := by rw [← HE.out]; exact upTo_no k hlt (by rw [HA.out]; simp [h3])
            have h3' : (m == ((k : Int) == (l.length : Int) - 1)) = true := by
              have h3 : m = !decide (k + 1 < l.length) := by cases m <;> simp_all
              rw [h3]
              by_cases q : k + 1 < l.length
              · have : ((k : Int) == (l.length : Int) - 1) = false := by simp; omega
                rw [this]; simp [q]
              · have : ((k : Int) == (l.length : Int) - 1) = true := by simp; omega
                rw [this]; simp [q]
            clear h1 h2 h3
            go_wp2_with fail
            go_big_quiet (fail)
            go_wp2
            go_ret
            exact ⟨by rw [HQ.out]; rfl, below_drewN HB.out _⟩
        · have HQ : Hid (E = false) := by rw [← HE.out]; exact upTo_no k hlt (by rw [HA.out]; simp [h2])
          have h2' : (n != k) = true := by simp [h2]
          clear h1 h2
          go_wp2_with fail
          go_big_quiet (fail)
          go_wp2
          go_ret
          exact ⟨by rw [HQ.out]; rfl, below_drewN HB.out _⟩
      · have HQ : Hid (E = false) := by rw [← HE.out]; exact upTo_no k hlt (by rw [HA.out]; simp [h1])
        have h1' : (s != s0) = true := by simp [h1]
        clear h1
        go_wp2_with fail
        go_big_quiet (fail)
        go_wp2
        go_ret
        exact ⟨by rw [HQ.out]; rfl, below_drewN HB.out _⟩
    · have HQ : Hid (E = true) := by rw [← HE.out]; have := HR.out.1; rwa [show k = l.length by omega] at this
      go_wp2
      go_ret
      exact ⟨by rw [HQ.out]; rfl, HR.out.2⟩

theorem strs_here {w : World} {ao : Option Addr} {l : List ByteArray} {k : Nat} (h : StrsIn w ao l) (hlt : k < l.length) : ∃ b o, ao = some ⟨b, o, none⟩ ∧ b < w.heap.size ∧ ∀ i (h : i < l.length), w.cell? ⟨b, o + i, none⟩ = some (.string l[i]) := by
  rcases h with rfl | h
  · simp at hlt
  · exact h

set_option maxHeartbeats 4000000 in
theorem fill_any (ps : List ByteArray) (l : List Bk) (ap ao : Option Addr) (cp co : Nat) (w : World) (hp : StrsIn w ap ps) (hl : BksIn w ao l) (hn : l.length ≤ 1152921504606846976) (hpl : ps.length = l.length) (hs : sizesOk l = true) (hpm : ∀ s ∈ ps, s.size ≤ 9223372036854775807) :
    Calls Try.prog 19 #[.slice ap ps.length cp, .slice ao l.length co] w fun e w' => e = .returned (.bool (fillsOk ps l)) ∧ Below w.heap.size w w' := by
  generalize hE : fillsOk ps l = E
  have HE := hide hE
  have HL := hide hl
  have HP := hide hp
  have HPM := hide hpm
  have HS := hide hs
  clear hE hl hp hpm hs
  go_enter Try.func19, Try.ntmps19
  go_wp2
  go_loopw [11] (fun i wr => ∃ k : Nat, k ≤ l.length ∧ i = .int .i64 k ∧ Hid (upTo (fillAt ps l) k = true ∧ Below w.heap.size w wr)) (fun i _ => l.length - (intOf i).toNat)
  case atStart => exact ⟨0, by omega, rfl, upTo_zero _, Below.refl _ _⟩
  case round =>
    obtain ⟨k, hk, rfl, HR⟩ := hrel
    have hsz := HR.out.2.size
    by_cases hlt : k < l.length
    · obtain ⟨b, o, rfl, hb, hcell⟩ := bks_here HL.out hlt
      have hltp : k < ps.length := by omega
      obtain ⟨b', o', rfl, hb', hcell'⟩ := strs_here HP.out hltp
      have hbr : b' < wr.heap.size := by omega
      have hk1 : wr.cell? ⟨b, o + k * 3, none⟩ = some (.int .i64 l[k].num) := by rw [HR.out.2.cell (p := ⟨b, _, none⟩) hb]; exact (hcell k hlt).1
      have hk2 : wr.cell? ⟨b, o + k * 3 + 1, none⟩ = some (.bool l[k].more) := by rw [HR.out.2.cell (p := ⟨b, _, none⟩) hb]; exact (hcell k hlt).2.1
      have hk3 : wr.cell? ⟨b, o + k * 3 + 2, none⟩ = some (.int .i64 l[k].size) := by rw [HR.out.2.cell (p := ⟨b, _, none⟩) hb]; exact (hcell k hlt).2.2
      have hk4 : wr.cell? ⟨b', o' + k, none⟩ = some (.string ps[k]) := by rw [HR.out.2.cell (p := ⟨b', _, none⟩) hb']; exact hcell' k hltp
      have hm := HPM.out ps[k] (List.getElem_mem _)
      have hso : szOk l[k].size = true := by have := upTo_iff.1 HS.out k hlt; rwa [bkAt_eq _ _ hlt] at this
      have CR := hide (fun W => room_any l[k].size W (szOk_iff.1 hso).1 (szOk_iff.1 hso).2)
      have r2 : (room l[k].size : Int) ≤ 1024 := by have := room_le (szOk_iff.1 hso).2; omega
      have HA : Hid (fillAt ps l k = (decide (ps[k].size ≤ room l[k].size) && !(l[k].more && decide (ps[k].size < room l[k].size)) && !(decide (0 < k) && decide (ps[k].size = 0)))) := by
        show _ = _
        unfold fillAt
        rw [bkAt_eq _ _ hlt, psAt_eq _ _ hltp]
      have HB := hide (HR.out.2.alloc hsz (.cells #[.int .i64 l[k].num, .bool l[k].more, .int .i64 l[k].size] 25))
      clear hcell hcell' HL HP HS hso HPM
      generalize l[k] = x at *
      generalize ps[k] = q at *
      obtain ⟨n, m, s⟩ := x
      simp only at hk1 hk2 hk3 CR r2 HA HB
      generalize room s = R at *
      have HF : Hid (fillAt ps l k = true → upTo (fillAt ps l) (k + 1) = true) := fun h => upTo_more HR.out.1 h
      have HG : Hid (fillAt ps l k = false → E = false) := fun h => by rw [← HE.out]; exact upTo_no k hlt h
      rw [HA.out] at HF HG
      clear HA HE
      have HRR := hide HR.out.2
      clear HR
      go_wp2_with fail
      go_big_quiet (refine Calls.quiet_of_same (CR.out _))
      by_cases c1 : (R : Int) < q.size
      · have HQ := hide (HG.out (by rw [decide_eq_false (by omega)]; rfl))
        clear HF HG
        go_wp2
        go_ret
        exact ⟨by rw [HQ.out]; rfl, below_drewN HB.out _⟩
      · have e1 : decide (q.size ≤ R) = true := decide_eq_true (by omega)
        rw [e1] at HF HG
        by_cases c3 : (0 : Int) < k ∧ (q.size : Int) = 0
        · have e3 : (decide (0 < k) && decide (q.size = 0)) = true := by rw [decide_eq_true (show 0 < k by omega), decide_eq_true (show q.size = 0 by omega)]; rfl
          rw [e3] at HF HG
          have HQ := hide (HG.out (by simp))
          obtain ⟨c3, c4⟩ := c3
          have c4' : ((q.size : Int) == 0) = true := by rw [c4]; rfl
          have c3' : 0 < k := by omega
          clear HF HG c4 c3 e1 e3
          cases m with
          | true =>
            by_cases c2 : (q.size : Int) < R
            · go_wp2
              go_ret
              exact ⟨by rw [HQ.out]; rfl, below_drewN HB.out _⟩
            · go_wp2
              go_ret
              exact ⟨by rw [HQ.out]; rfl, below_drewN HB.out _⟩
          | false =>
            go_wp2
            go_ret
            exact ⟨by rw [HQ.out]; rfl, below_drewN HB.out _⟩
        · have e3 : (decide (0 < k) && decide (q.size = 0)) = false := by
            rw [← Bool.decide_and]
            exact decide_eq_false (by omega)
          rw [e3] at HF HG
          cases m with
          | true =>
            by_cases c2 : (q.size : Int) < R
            · have HQ := hide (HG.out (by rw [decide_eq_true (show q.size < R by omega)]; rfl))
              clear HF HG e1 e3 c3
              go_wp2
              go_ret
              exact ⟨by rw [HQ.out]; rfl, below_drewN HB.out _⟩
            · have HQ := hide (HF.out (by rw [decide_eq_false (show ¬ q.size < R by omega)]; rfl))
              clear HF HG e1 e3
              by_cases c4 : (0 : Int) < k
              · have c5 : ((q.size : Int) == 0) = false := beq_false_of_ne (by omega)
                have c6 : 0 < k := by omega
                clear c3
                go_wp2
                go_round
                case rel => exact ⟨k + 1, by omega, by go_num, HQ.out, below_drewN HB.out _⟩
                case measure => simp [intOf]; omega
              · have c6 : ¬ 0 < k := by omega
                clear c3 c4
                go_wp2
                go_round
                case rel => exact ⟨k + 1, by omega, by go_num, HQ.out, below_drewN HB.out _⟩
                case measure => simp [intOf]; omega
          | false =>
            have HQ := hide (HF.out rfl)
            clear HF HG e1 e3
            by_cases c4 : (0 : Int) < k
            · have c5 : ((q.size : Int) == 0) = false := beq_false_of_ne (by omega)
              have c6 : 0 < k := by omega
              clear c3
              go_wp2
              go_round
              case rel => exact ⟨k + 1, by omega, by go_num, HQ.out, below_drewN HB.out _⟩
              case measure => simp [intOf]; omega
            · have c6 : ¬ 0 < k := by omega
              clear c3 c4
              go_wp2
              go_round
              case rel => exact ⟨k + 1, by omega, by go_num, HQ.out, below_drewN HB.out _⟩
              case measure => simp [intOf]; omega
    · have HQ : Hid (E = true) := by rw [← HE.out]; have := HR.out.1; rwa [show k = l.length by omega] at this
      go_wp2
      go_ret
      exact ⟨by rw [HQ.out]; rfl, HR.out.2⟩
end Go.Proofs.Ytcldjoklkbbbgad
