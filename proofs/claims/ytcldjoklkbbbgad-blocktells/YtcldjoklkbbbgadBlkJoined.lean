/-
  (*block.joiner).add, block.joined, Join: what they answer.
-/
import Derived.Test.YtcldjoklkbbbgadBlkJoin
import Derived.Test.YtcldjoklkbbbgadJbBase
import Derived.Deep.DeepCutAuto
namespace Go.Proofs.Ytcldjoklkbbbgad
open Go.RowKit Go.PlainAid Jb

set_option maxHeartbeats 1000000 in
theorem jadd_many (N b : Nat) (bs s : ByteArray) (w : World) (h : Bd N b bs w) (hlen : bs.size ≤ 200) (hs : s.size ≤ 1152921504606846976) (hm : 200 < bs.size + s.size) :
    Calls Try.prog 24 #[.pointer (some ⟨b, 0, none⟩), .string s] w fun e w' => e = .returned (.int .i64 2) ∧ w' = w := by
  have C := hide (len_any N b bs w h)
  have hm' : (200 : Int) < bs.size + s.size := by omega
  clear h hm
  go_enter Try.func24, Try.ntmps24
  go_wp2_with fail
  refine C.out.mono ?_
  rintro e w1 ⟨rfl, h1⟩
  subst h1
  go_wp2
  go_ret
  exact ⟨rfl, rfl⟩
set_option maxHeartbeats 1000000 in
theorem jadd_ok (N b : Nat) (bs s : ByteArray) (w : World) (h : Bd N b bs w) (hN : N ≤ w.heap.size) (hm : bs.size + s.size ≤ 200) :
    Calls Try.prog 24 #[.pointer (some ⟨b, 0, none⟩), .string s] w fun e w' => e = .returned (.int .i64 0) ∧ Bd N b (bs ++ s) w' ∧ KeptN N b w w' := by
  have C := hide (len_any N b bs w h)
  have C2 := hide (writeString_any N b bs s w h (by omega) hN)
  have hm' : (bs.size + s.size : Int) ≤ 200 := by omega
  clear h hm hN
  go_enter Try.func24, Try.ntmps24
  go_wp2_with fail
  refine C.out.mono ?_
  rintro e w1 ⟨rfl, h1⟩
  subst h1
  go_wp2_with fail
  refine C2.out.mono ?_
  rintro e w2 ⟨rfl, hb2, hk2⟩
  have H2 := hide (And.intro hb2 hk2)
  clear hb2 hk2
  go_wp2
  go_ret
  exact ⟨rfl, H2.out⟩

theorem jstring_here (N b : Nat) (bs : ByteArray) (w : World) (h : Bd N b bs w) : Calls Try.prog 25 #[.pointer (some ⟨b, 0, none⟩)] w fun e w' => e = .returned (.string bs) ∧ KeptN N b w w' := by
  refine (string_any N w.heap.size b bs w h (fun p v hpv g hg => ?_)).mono ?_
  · obtain ⟨p', v', _, hb', ho', _, _⟩ := h
    rw [hb'] at hpv
    simp only [Option.some.injEq, Obj.cells.injEq, Array.mk.injEq, List.cons.injEq] at hpv
    obtain ⟨⟨_, rfl, _⟩, _⟩ := hpv
    exact (ho'.lt g hg).2
  · rintro e w' ⟨rfl, hk, _⟩
    exact ⟨rfl, hk⟩

def catS (ps : List ByteArray) : ByteArray := if catE ps = 0 then cat ps else ⟨#[]⟩

set_option maxHeartbeats 2000000 in
theorem joined_any (ps : List ByteArray) (ap : Option Addr) (cp : Nat) (w : World) (hp : StrsIn w ap ps) (hn : ps.length ≤ 1152921504606846976) (hpm : ∀ s ∈ ps, s.size ≤ 1152921504606846976) :
    Calls Try.prog 20 #[.slice ap ps.length cp] w fun e w' => e = .returned (.tuple #[.string (catS ps), .int .i64 (catE ps)]) ∧ Below w.heap.size w w' := by
  have HS0 : Hid (200 < (cat ps).size → catS ps = ⟨#[]⟩ ∧ catE ps = 2) := fun h => by
    have : catE ps = 2 := by unfold catE; rw [if_pos h]
    exact ⟨by unfold catS; rw [this]; rfl, this⟩
  have HS1 : Hid ((cat ps).size ≤ 200 → catS ps = cat ps ∧ catE ps = 0) := fun h => by
    have : catE ps = 0 := by unfold catE; rw [if_neg (by omega)]
    exact ⟨by unfold catS; rw [this]; rfl, this⟩
  revert HS0 HS1
  generalize catS ps = CS
  generalize catE ps = CE
  intro HS0 HS1
  have HP := hide hp
  have HPM := hide hpm
  clear hp hpm
  have HB0 : Hid (Bd (w.heap.size + 1) w.heap.size ⟨#[]⟩ (w.alloc (.cells #[.pointer none, .slice none 0 0] 50))) := Bd.fresh (w.heap.size + 1) w
  have HW0 := hide ((Below.refl w.heap.size w).alloc (Nat.le_refl _) (.cells #[.pointer none, .slice none 0 0] 50))
  have hs0 : (w.alloc (.cells #[.pointer none, .slice none 0 0] 50)).heap.size = w.heap.size + 1 := by simp
  go_enter Try.func20, Try.ntmps20
  go_upto_region 2 with fail
  revert HB0 HW0 hs0
  generalize w.alloc (.cells #[.pointer none, .slice none 0 0] 50) = W0
  intro HB0 HW0 hs0
  go_wp2
  go_loopw [12] (fun i wr => ∃ k : Nat, k ≤ ps.length ∧ i = .int .i64 k ∧ Hid ((cat (ps.take k)).size ≤ 200 ∧ Bd (w.heap.size + 1) w.heap.size (cat (ps.take k)) wr ∧ KeptN (w.heap.size + 1) w.heap.size W0 wr)) (fun i _ => ps.length - (intOf i).toNat)
  case atStart => exact ⟨0, by omega, rfl, (show (⟨#[]⟩ : ByteArray).size ≤ 200 by decide), HB0.out, KeptN.refl _ _ _⟩
  case round =>
    obtain ⟨k, hk, rfl, HR⟩ := hrel
    have hsz := HR.out.2.2.size
    have h200 := HR.out.1
    by_cases hlt : k < ps.length
    · obtain ⟨b', o', rfl, hb', hcell'⟩ := strs_here HP.out hlt
      have hk4 : wr.cell? ⟨b', o' + k, none⟩ = some (.string ps[k]) := by rw [HR.out.2.2.cell (p := ⟨b', _, none⟩) (by show b' < _; omega) (by show b' ≠ _; omega), HW0.out.cell (p := ⟨b', _, none⟩) hb']; exact hcell' k hlt
      have hm := HPM.out ps[k] (List.getElem_mem _)
      have HSN := hide (cat_snoc ps k hlt)
      have HLE := hide (cat_take_le ps (k + 1))
      clear hcell'
      by_cases hq : (cat (ps.take k)).size + ps[k].size ≤ 200
      · have C := hide (jadd_ok _ _ _ ps[k] wr HR.out.2.1 (by omega) hq)
        have HZ : Hid ((cat (ps.take (k + 1))).size ≤ 200) := by rw [HSN.out, ByteArray.size_append]; exact hq
        rw [← HSN.out] at C
        generalize ps[k] = q at *
        go_wp2_with fail
        refine C.out.mono ?_
        rintro e w1 ⟨rfl, hb1, hk1⟩
        have H1 : Hid (_ ∧ _) := And.intro hb1 (HR.out.2.2.trans hk1)
        clear hb1 hk1
        go_wp2
        go_round
        case rel => exact ⟨k + 1, by omega, by go_num, HZ.out, H1.out⟩
        case measure => simp [intOf]; omega
      · have C := hide (jadd_many _ _ _ ps[k] wr HR.out.2.1 h200 hm (by omega))
        have HQ := hide (HS0.out (by have := HLE.out; rw [HSN.out, ByteArray.size_append] at this; omega))
        generalize ps[k] = q at *
        go_wp2_with fail
        refine C.out.mono ?_
        rintro e w1 ⟨rfl, h1⟩
        subst h1
        go_wp2
        go_ret2
        exact ⟨by rw [HQ.out.1, HQ.out.2]; rfl, HW0.out.trans (HR.out.2.2.below (by omega) (Nat.le_refl _))⟩
    · have hke : ps.take k = ps := List.take_of_length_le (by omega)
      rw [hke] at HR h200
      have HQ := hide (HS1.out h200)
      have C := hide (jstring_here _ _ _ wr HR.out.2.1)
      clear hke
      go_wp2_with fail
      refine C.out.mono ?_
      rintro e w1 ⟨rfl, hk1⟩
      have H1 := hide (HR.out.2.2.trans hk1)
      clear hk1
      go_wp2
      go_ret2
      exact ⟨by rw [HQ.out.1, HQ.out.2]; rfl, HW0.out.trans (H1.out.below (by omega) (Nat.le_refl _))⟩

theorem fills_small {ps : List ByteArray} {l : List Bk} (h1 : ps.length = l.length) (h2 : sizesOk l = true) (h3 : fillsOk ps l = true) : ∀ s ∈ ps, s.size ≤ 1152921504606846976 := fun s hs => by
  obtain ⟨i, hi, rfl⟩ := List.mem_iff_getElem.1 hs
  have hi' : i < l.length := by omega
  have e1 := upTo_iff.1 h3 i hi'
  have e2 := upTo_iff.1 h2 i hi'
  unfold fillAt at e1
  rw [psAt_eq _ _ hi] at e1
  simp only [Bool.and_eq_true, decide_eq_true_eq] at e1
  have := room_le (szOk_iff.1 e2).2
  have := e1.1.1
  omega

theorem joinS_cases (ps : List ByteArray) (bs : List Bk) : (joinE ps bs ≠ 0 → joinS ps bs = ⟨#[]⟩) ∧ (joinE ps bs = 0 → joinS ps bs = cat ps) := by
  unfold joinS
  exact ⟨fun h => if_neg h, fun h => if_pos h⟩

set_option maxHeartbeats 2000000 in
theorem join_any (ps : List ByteArray) (l : List Bk) (ap ao : Option Addr) (cp co : Nat) (w : World) (hp : StrsIn w ap ps) (hl : BksIn w ao l) (hn : l.length ≤ 1152921504606846976) (hnp : ps.length ≤ 1152921504606846976) (hpm : ∀ s ∈ ps, s.size ≤ 9223372036854775807) :
    Calls Try.prog 9 #[.slice ap ps.length cp, .slice ao l.length co] w fun e w' => e = .returned (.tuple #[.string (joinS ps l), .int .i64 (joinE ps l)]) ∧ Below w.heap.size w w' := by
  have hJ := joinS_cases ps l
  have C1 : Hid (∀ W, Below w.heap.size w W → Calls Try.prog 16 #[.slice ao l.length co, .func (.func 17) #[] #[]] W fun e w' => e = .returned (.bool (!sizesOk l)) ∧ Below W.heap.size W w') := fun W h => containsFunc_any l ao co W (hl.below h) hn
  have C2 : Hid (∀ W, Below w.heap.size w W → Calls Try.prog 18 #[.slice ao l.length co] W fun e w' => e = .returned (.bool (linesOk l)) ∧ Below W.heap.size W w') := fun W h => inLine_any l ao co W (hl.below h) hn
  have C3 : Hid (ps.length = l.length → sizesOk l = true → ∀ W, Below w.heap.size w W → Calls Try.prog 19 #[.slice ap ps.length cp, .slice ao l.length co] W fun e w' => e = .returned (.bool (fillsOk ps l)) ∧ Below W.heap.size W w') := fun h1 h2 W h => fill_any ps l ap ao cp co W (hp.below h) (hl.below h) hn h1 h2 hpm
  have C4 : Hid (ps.length = l.length → sizesOk l = true → fillsOk ps l = true → ∀ W, Below w.heap.size w W → Calls Try.prog 20 #[.slice ap ps.length cp] W fun e w' => e = .returned (.tuple #[.string (catS ps), .int .i64 (catE ps)]) ∧ Below W.heap.size W w') := fun h1 h2 h3 W h => joined_any ps ap cp W (hp.below h) hnp (fills_small h1 h2 h3)
  clear hl hp hpm
  by_cases h0 : ps.length = 0
  · have hE : joinE ps l = 1 := by unfold joinE; rw [if_pos (.inl h0)]
    rw [hJ.1 (by rw [hE]; decide), hE]
    clear C1 C2 C3 C4 hJ hE
    generalize ps.length = n at *
    subst h0
    go_enter Try.func9, Try.ntmps9
    go_wp2
    go_ret2
    exact ⟨rfl, Below.refl _ _⟩
  · have h0' : ((ps.length : Int) == 0) = false := beq_false_of_ne (by omega)
    by_cases h1 : ps.length = l.length
    · have h1' : ((ps.length : Int) != (l.length : Int)) = false := by rw [h1]; simp
      have C3 := hide (C3.out h1)
      cases h2 : sizesOk l with
      | false =>
        have hE : joinE ps l = 3 := by unfold joinE; rw [if_neg (by omega), if_pos h2]
        rw [hJ.1 (by rw [hE]; decide), hE]
        rw [h2] at C1
        clear C2 C3 C4 hJ hE h0 h1 h2
        go_enter Try.func9, Try.ntmps9
        go_wp2_with fail
        refine (C1.out _ (Below.refl _ _)).mono ?_
        rintro e w1 ⟨rfl, hb1⟩
        have HB1 := hide hb1
        clear hb1
        go_wp2
        go_ret2
        exact ⟨rfl, HB1.out⟩
      | true =>
        have C3 := hide (C3.out h2)
        cases h3 : linesOk l with
        | false =>
          have hE : joinE ps l = 4 := by unfold joinE; rw [if_neg (by omega), if_neg (by simp [h2]), if_pos (.inl h3)]
          rw [hJ.1 (by rw [hE]; decide), hE]
          rw [h2] at C1
          rw [h3] at C2
          clear C3 C4 hJ hE h0 h1 h2 h3
          go_enter Try.func9, Try.ntmps9
          go_wp2_with fail
          refine (C1.out _ (Below.refl _ _)).mono ?_
          rintro e w1 ⟨rfl, hb1⟩
          have HB1 := hide hb1
          clear hb1
          go_wp2_with fail
          refine (C2.out _ HB1.out).mono ?_
          rintro e w2 ⟨rfl, hb2⟩
          have HB2 := hide (below_step HB1.out hb2)
          clear hb2
          go_wp2
          go_ret2
          exact ⟨rfl, HB2.out⟩
        | true =>
          cases h4 : fillsOk ps l with
          | false =>
            have hE : joinE ps l = 4 := by unfold joinE; rw [if_neg (by omega), if_neg (by simp [h2]), if_pos (.inr h4)]
            rw [hJ.1 (by rw [hE]; decide), hE]
            rw [h2] at C1
            rw [h3] at C2
            rw [h4] at C3
            clear C4 hJ hE h0 h1 h2 h3 h4
            go_enter Try.func9, Try.ntmps9
            go_wp2_with fail
            refine (C1.out _ (Below.refl _ _)).mono ?_
            rintro e w1 ⟨rfl, hb1⟩
            have HB1 := hide hb1
            clear hb1
            go_wp2_with fail
            refine (C2.out _ HB1.out).mono ?_
            rintro e w2 ⟨rfl, hb2⟩
            have HB2 := hide (below_step HB1.out hb2)
            clear hb2
            go_wp2_with fail
            refine (C3.out _ HB2.out).mono ?_
            rintro e w3 ⟨rfl, hb3⟩
            have HB3 := hide (below_step HB2.out hb3)
            clear hb3
            go_wp2
            go_ret2
            exact ⟨rfl, HB3.out⟩
          | true =>
            have hE : joinE ps l = catE ps := by unfold joinE; rw [if_neg (by omega), if_neg (by simp [h2]), if_neg (by simp [h3, h4])]
            have hS : joinS ps l = catS ps := by unfold joinS catS; rw [hE]
            rw [hS, hE]
            rw [h2] at C1
            rw [h3] at C2
            rw [h4] at C3
            have C4 := hide (C4.out h1 h2 h4)
            clear hJ hE h0 h1 h2 h3 h4 hS
            generalize catS ps = CS at *
            generalize catE ps = CE at *
            go_enter Try.func9, Try.ntmps9
            go_wp2_with fail
            refine (C1.out _ (Below.refl _ _)).mono ?_
            rintro e w1 ⟨rfl, hb1⟩
            have HB1 := hide hb1
            clear hb1
            go_wp2_with fail
            refine (C2.out _ HB1.out).mono ?_
            rintro e w2 ⟨rfl, hb2⟩
            have HB2 := hide (below_step HB1.out hb2)
            clear hb2
            go_wp2_with fail
            refine (C3.out _ HB2.out).mono ?_
            rintro e w3 ⟨rfl, hb3⟩
            have HB3 := hide (below_step HB2.out hb3)
            clear hb3
            go_wp2_with fail
            refine (C4.out _ HB3.out).mono ?_
            rintro e w4 ⟨rfl, hb4⟩
            have HB4 := hide (below_step HB3.out hb4)
            clear hb4
            go_wp2
            go_ret2
            exact ⟨rfl, HB4.out⟩
    · have hE : joinE ps l = 1 := by unfold joinE; rw [if_pos (.inr h1)]
      have h1' : ((ps.length : Int) != (l.length : Int)) = true := by simp; omega
      rw [hJ.1 (by rw [hE]; decide), hE]
      clear C1 C2 C3 C4 hJ hE h0 h1
      go_enter Try.func9, Try.ntmps9
      go_wp2
      go_ret2
      exact ⟨rfl, Below.refl _ _⟩
end Go.Proofs.Ytcldjoklkbbbgad
