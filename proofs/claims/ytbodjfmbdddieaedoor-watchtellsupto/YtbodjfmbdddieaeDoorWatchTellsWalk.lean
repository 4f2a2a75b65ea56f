/-
  WatchTells: the walk through the law, by the contracts of what it calls.
-/
import Derived.Test.YtbodjfmbdddieaeDoorWatchTellOf
import Derived.Test.YtbodjfmbdddieaeDoorWatchRef
namespace Go.Proofs.YtbodjfmbdddieaeDoor
open Go.RowKit Go.PlainAid

set_option maxHeartbeats 2000000 in
theorem watchesAre_yes (A : List Wt) (x : Int) (ap ao : Option Addr) (cp co : Nat) (w : World) (hp : WtsIn w ap A) (hl : WtsIn w ao A) (hn : A.length ≤ 1152921504606846976) (hx : x ≠ 0 → A = []) :
    Calls Tryd.prog 37 #[.slice ap A.length cp, .int .i64 x, .int .i64 x, .slice ao A.length co] w fun e w' => e = .returned (.bool true) ∧ Below w.heap.size w w' := by
  by_cases h : x = 0
  · have C := hide (fun W (hb : Below w.heap.size w W) => sameWatches_yes A ap ao cp co W (hp.below hb) (hl.below hb) hn)
    subst h
    clear hp hl hn hx
    generalize A.length = m at *
    go_enter Tryd.func37, Tryd.ntmps37
    go_wp2_with fail
    refine (C.out _ (Below.refl _ _)).mono ?_
    rintro e w1 ⟨rfl, hb1⟩
    have HB1 := hide hb1
    clear hb1
    go_wp2
    go_ret
    exact ⟨rfl, HB1.out⟩
  · obtain rfl := hx h
    have C := hide (fun W => sameWatches_yes [] ap none cp 0 W (.inl rfl) (.inl rfl) (by simp))
    have h' : (x != 0) = true := by simp [h]
    have h'' : (x == x) = true := by simp
    clear hp hl hn hx h
    simp only [List.length_nil] at *
    go_enter Tryd.func37, Tryd.ntmps37
    go_wp2_with fail
    refine (C.out _).mono ?_
    rintro e w1 ⟨rfl, hb1⟩
    have HB1 := hide hb1
    clear hb1
    go_wp2
    go_ret
    exact ⟨rfl, HB1.out⟩

def avE (l : List Wt) (p : Int) (t n : ByteArray) : Int := if wchkK l = 0 then chkQ p t n else wchkK l
theorem wchkO_new (p : Int) (t n : ByteArray) : wchkO ⟨p, t, n, 1⟩ = chkQ p t n := by
  rw [wchkO_Q]
  simp only
  by_cases h : chkQ p t n = 0
  · rw [h]; rfl
  · rw [if_pos h]
theorem chk_a : chk nameF ⟨#[97]⟩ = 0 := by decide +kernel
theorem chkQ_a (p : Int) (t : ByteArray) : chkQ p t ⟨#[97]⟩ = waskE p t := by
  unfold chkQ
  rw [chk_a]
  by_cases h : waskE p t = 0
  · rw [h]; rfl
  · rw [if_pos h]
theorem add_of_av {l : List Wt} {p : Int} {t n : ByteArray} (h : avE l p t n ≠ 0) : addE l p t n = avE l p t n ∧ addA l p t n = [] := by
  have e : addE l p t n = avE l p t n := by
    unfold addE avE at *
    rw [wchkO_new] at *
    by_cases hk : wchkK l = 0
    · rw [if_pos hk] at h ⊢
      rw [if_neg (by simp [hk]), if_pos h]
    · rw [if_neg hk, if_pos hk]
  exact ⟨e, by unfold addA; rw [e, if_neg h]⟩
theorem radd_of_av {l : List Wt} {p : Int} {t n : ByteArray} (h : avE l p t n = 0) : wchkK l = 0 ∧ raddE l p t = addE l p t n ∧ raddA l p t n = addA l p t n := by
  have hk : wchkK l = 0 := by
    unfold avE at h
    split at h
    · assumption
    · exact h
  have hq : chkQ p t n = 0 := by unfold avE at h; rwa [if_pos hk] at h
  have e : addE l p t n = raddE l p t := by
    unfold addE raddE
    rw [wchkO_new, hk, hq, if_neg (by simp), if_neg (by simp)]
  refine ⟨hk, e.symm, ?_⟩
  unfold raddA addA
  rw [e]
  unfold raddE
  by_cases h12 : (offW l p t).length = 12
  · rw [if_pos h12, if_pos h12]; rfl
  · rw [if_neg h12, if_neg h12]; rfl
theorem len_of {l : List Wt} (h : wchkK l = 0) : l.length ≤ 12 := ((wchkK_iff l).1 h).1
theorem addA_len (l : List Wt) (p : Int) (t n : ByteArray) : (addA l p t n).length ≤ 1152921504606846976 := by
  unfold addA
  split
  · rename_i h; have := len_of (add_check h); omega
  · simp
theorem canA_len (l : List Wt) (p : Int) (t : ByteArray) : (canA l p t).length ≤ 1152921504606846976 := by
  unfold canA
  split
  · rename_i h
    have hk : wchkK l = 0 := by
      unfold canE at h
      split at h
      · rename_i h1; exact absurd h h1
      · rename_i h1; exact Decidable.not_not.1 h1
    have := len_of hk
    have := off_len l p t
    omega
  · simp
theorem telA_len (l : List Wt) (n : ByteArray) : (telA l n).length ≤ 1152921504606846976 ∧ (telB l n).length ≤ 1152921504606846976 := by
  unfold telA telB
  split
  · rename_i h
    have hk : wchkK l = 0 := by
      unfold telE at h
      split at h
      · rename_i h1; exact absurd h h1
      · rename_i h1; exact Decidable.not_not.1 h1
    have h1 := len_of (tel_check hk n)
    have h2 : (telS l n).length ≤ (telL l n).length := List.length_filter_le _ _
    exact ⟨by omega, by omega⟩
  · simp

set_option maxHeartbeats 8000000 in
set_option maxRecDepth 100000 in
theorem watchTells_walk (l : List Wt) (p : Int) (t n : ByteArray) (a b : Int) (ao : Option Addr) (co : Nat) (w : World) (hl : WtsIn w ao l) (hco : l.length ≤ co) (hm : Max w) (hs : ∀ k ∈ l, k.topic.size ≤ 1048576) (hn : n.size ≤ 1048576) :
    Calls Tryd.prog 6 #[.slice ao l.length co, .int .i64 p, .string t, .string n, .int .i64 a, .int .i64 b] w fun e w' => e = .returned (.bool true) ∧ Below w.heap.size w w' := by
  have CA : Hid (∀ W, Below w.heap.size w W → Calls Tryd.prog 26 #[.slice ao l.length co, .int .i64 p, .string t, .string n] W (WPost W (addA l p t n) (addE l p t n))) := fun W h => wadd_any l p t n ao co W (hl.below h) hco (hm.below h)
  have CC : Hid (∀ W, Below w.heap.size w W → Calls Tryd.prog 27 #[.slice ao l.length co, .int .i64 p, .string t] W (WPost W (canA l p t) (canE l p t))) := fun W h => wcancel_any l p t ao co W (hl.below h) hco (hm.below h)
  have CT : Hid (∀ W, Below w.heap.size w W → Calls Tryd.prog 28 #[.slice ao l.length co, .string n] W (TPost W (telA l n) (telB l n) (telE l n))) := fun W h => wtell_any l n ao co W (hl.below h) hco (hm.below h)
  have CF : Hid (∀ W, Calls Tryd.prog 29 #[.int .i64 a, .int .i64 b] W fun e w' => e = .returned (.tuple #[.bool (freB a b), .int .i64 (freE a b)]) ∧ w' = W) := fun W => fresh_same a b W
  have CK : Hid (∀ W, Below w.heap.size w W → Calls Tryd.prog 36 #[.slice ao l.length co] W fun e w' => e = .returned (.int .i64 (wchkK l)) ∧ Below W.heap.size W w') := fun W h => wcheck_any l ao co W (hl.below h) hco (hm.below h)
  have RK : Hid (∀ W, Below w.heap.size w W → Calls Tryd.prog 30 #[.slice ao l.length co] W fun e w' => e = .returned (.int .i64 (wchkK l)) ∧ Below W.heap.size W w') := fun W h => checkWatches_any l ao co W (hl.below h) hs
  have RQ : Hid (∀ W, Calls Tryd.prog 31 #[.int .i64 p, .string t, .string n] W fun e w' => e = .returned (.int .i64 (chkQ p t n)) ∧ Below W.heap.size W w') := fun W => refWatch_any p t n W hn
  have RA : Hid (∀ W, Calls Tryd.prog 31 #[.int .i64 p, .string t, .string ⟨#[97]⟩] W fun e w' => e = .returned (.int .i64 (waskE p t)) ∧ Below W.heap.size W w') := fun W => by
    have := refWatch_any p t ⟨#[97]⟩ W (by decide)
    rwa [chkQ_a] at this
  have RN : Hid (∀ W, Calls Tryd.prog 18 #[.string n, .bool false] W fun e w' => e = .returned (.int .i64 (chk nameF n)) ∧ Below W.heap.size W w') := fun W => checkTopic_any n false W hn
  have RAdd : Hid (avE l p t n = 0 → ∀ W, Below w.heap.size w W → Calls Tryd.prog 32 #[.slice ao l.length co, .int .i64 p, .string t, .string n] W (WPost W (addA l p t n) (addE l p t n))) := fun h W hW => by
    obtain ⟨hk, h1, h2⟩ := radd_of_av h
    have := addWatch_any l p t n ao co W (hl.below hW) (len_of hk)
    rwa [h1, h2] at this
  have RCan : Hid (canE l p t = 0 → ∀ W, Below w.heap.size w W → Calls Tryd.prog 33 #[.slice ao l.length co, .int .i64 p, .string t] W (WRow W (canA l p t))) := fun h W hW => by
    have hk : wchkK l = 0 := by
      unfold canE at h
      split at h
      · rename_i h1; exact absurd h h1
      · rename_i h1; exact Decidable.not_not.1 h1
    have := cancelOf_any l p t ao co W (hl.below hW) (len_of hk)
    rwa [show offW l p t = canA l p t by unfold canA; rw [h]; rfl] at this
  have RTel : Hid (telE l n = 0 → ∀ W, Below w.heap.size w W → Calls Tryd.prog 34 #[.slice ao l.length co, .string n] W (RPost W (telA l n) (telB l n))) := fun h W hW => by
    have hk : wchkK l = 0 := by
      unfold telE at h
      split at h
      · rename_i h1; exact absurd h h1
      · rename_i h1; exact Decidable.not_not.1 h1
    have := tellOf_any l n ao co W (hl.below hW) hk
    rwa [show telL l n = telA l n by unfold telA; rw [h]; rfl, show telS l n = telB l n by unfold telB; rw [h]; rfl] at this
  have CB : Hid (∀ W, Below w.heap.size w W → Calls Tryd.prog 35 #[] W fun e w' => e = .returned (.bool true) ∧ Below W.heap.size W w') := fun W h => watchBegun_yes W (hm.below h)
  have HF : Hid (∀ W, freE a b = 0 → Calls Tryd.prog 38 #[.int .i64 a, .int .i64 b] W fun e w' => e = .returned (.bool (freB a b)) ∧ w' = W) := fun W h => by
    unfold freE at h
    cases ha : seqOk a with
    | false => rw [ha] at h; simp at h
    | true =>
      cases hb : seqOk b with
      | false => rw [ha, hb] at h; simp at h
      | true => exact isFresh_any a b W ha hb
  have HFB : Hid (freE a b ≠ 0 → freE a b = 3 ∧ freB a b = false) := fun h => by
    unfold freE freB at *
    cases ha : seqOk a with
    | false => simp
    | true =>
      cases hb : seqOk b with
      | false => simp
      | true => rw [ha, hb] at h; simp at h
  have HFE : Hid (((a < 0 ∨ 16777215 < a ∨ b < 0 ∨ 16777215 < b) → freE a b = 3) ∧ (¬ (a < 0 ∨ 16777215 < a ∨ b < 0 ∨ 16777215 < b) → freE a b = 0)) := by
    have ha := seqOk_iff a
    have hb := seqOk_iff b
    constructor
    · intro h
      unfold freE
      rw [if_neg]
      intro hh
      simp only [Bool.and_eq_true] at hh
      have := ha.1 hh.1
      have := hb.1 hh.2
      omega
    · intro h
      unfold freE
      rw [ha.2 (by omega), hb.2 (by omega)]
      rfl
  have HA1 : Hid (avE l p t n ≠ 0 → addE l p t n = avE l p t n ∧ addA l p t n = []) := fun h => add_of_av h
  have HA2 : Hid (addE l p t n ≠ 0 → addA l p t n = []) := fun h => by unfold addA; rw [if_neg h]
  have HAV : Hid ((wchkK l = 0 → chkQ p t n = avE l p t n) ∧ (wchkK l ≠ 0 → wchkK l = avE l p t n)) := ⟨fun h => by unfold avE; rw [if_pos h], fun h => by unfold avE; rw [if_neg h]⟩
  have HC1 : Hid ((wchkK l = 0 → waskE p t = canE l p t) ∧ (wchkK l ≠ 0 → wchkK l = canE l p t)) := ⟨fun h => by unfold canE; rw [if_neg (by simp [h])], fun h => by unfold canE; rw [if_pos h]⟩
  have HC2 : Hid (canE l p t ≠ 0 → canA l p t = []) := fun h => by unfold canA; rw [if_neg h]
  have HT1 : Hid ((wchkK l = 0 → chk nameF n = telE l n) ∧ (wchkK l ≠ 0 → wchkK l = telE l n)) := ⟨fun h => by unfold telE; rw [if_neg (by simp [h])], fun h => by unfold telE; rw [if_pos h]⟩
  have HT2 : Hid (telE l n ≠ 0 → telA l n = [] ∧ telB l n = []) := fun h => by unfold telA telB; rw [if_neg h, if_neg h]; exact ⟨rfl, rfl⟩
  have HN1 := hide (addA_len l p t n)
  have HN2 := hide (canA_len l p t)
  have HN3 := hide (telA_len l n)
  clear hl hm hs hn
  generalize addE l p t n = AE at *
  generalize addA l p t n = AA at *
  generalize canE l p t = CE at *
  generalize canA l p t = CL at *
  generalize telE l n = TE at *
  generalize telA l n = TA at *
  generalize telB l n = TB at *
  generalize freE a b = FE at *
  generalize freB a b = FB at *
  generalize avE l p t n = AV at *
  generalize chkQ p t n = Q at *
  generalize waskE p t = QA at *
  generalize chk nameF n = N at *
  generalize wchkK l = K at *
  go_enter Tryd.func6, Tryd.ntmps6
  go_wp2_with fail
  refine (CA.out _ (Below.refl _ _)).mono ?_
  intro e w1 h1
  obtain ⟨aa, ca, rfl, hk1, _, hb1⟩ := h1.inn
  have HB1 := hide hb1
  have HKA := hide hk1
  clear hk1 hb1 h1 CA
  go_wp2_with fail
  refine (CC.out _ HB1.out).mono ?_
  intro e w2 h2
  obtain ⟨ac, cc, rfl, hk2, _, hb2⟩ := h2.inn
  have HB2 := hide (below_step HB1.out hb2)
  have HKA := hide (HKA.out.below hb2)
  have HKC := hide hk2
  clear hk2 hb2 h2 CC HB1
  go_wp2_with fail
  refine (CT.out _ HB2.out).mono ?_
  intro e w3 h3
  obtain ⟨at1, ct1, at2, ct2, rfl, hk3, _, hk3', _, hb3⟩ := h3.inn
  have HB3 := hide (below_step HB2.out hb3)
  have HKA := hide (HKA.out.below hb3)
  have HKC := hide (HKC.out.below hb3)
  have HKT := hide hk3
  have HKU := hide hk3'
  clear hk3 hk3' hb3 h3 CT HB2
  go_wp2_with fail
  refine (CF.out _).mono ?_
  rintro e w4 ⟨rfl, hw⟩
  subst hw
  clear CF
  go_wp2_with fail
  refine (RK.out _ HB3.out).mono ?_
  rintro e w5 ⟨rfl, hb5⟩
  have HB5 := hide (below_step HB3.out hb5)
  have HKA := hide (HKA.out.below hb5)
  have HKC := hide (HKC.out.below hb5)
  have HKT := hide (HKT.out.below hb5)
  have HKU := hide (HKU.out.below hb5)
  clear hb5 RK HB3
  go_upto_if 65 with fail
  go_cut [23] (fun x wr => x = .int .i64 AV ∧ Hid (Below w5.heap.size w5 wr))
  case first =>
    by_cases hK : K = 0
    · have hK' : (K == 0) = true := by simp [hK]
      have HAN := hide (HAV.out.1 hK)
      clear hK
      go_wp2_with fail
      refine (RQ.out _).mono ?_
      rintro e w6 ⟨rfl, hb6⟩
      have HB6 := hide hb6
      clear hb6
      go_wp2_with fail
      go_meet
      case rel => exact ⟨by rw [HAN.out], HB6.out⟩
    · have hK' : (K == 0) = false := by simp [hK]
      have HAN := hide (HAV.out.2 hK)
      clear hK
      go_wp2_with fail
      go_meet
      case rel => exact ⟨by rw [HAN.out], Below.refl _ _⟩
  case rest =>
    obtain ⟨rfl, HB6⟩ := hcut
    go_upto_if 71 with fail
    go_cut [24] (fun x wr => x = .int .i64 CE ∧ Hid (Below w5.heap.size w5 wr))
    case first =>
      by_cases hK : K = 0
      · have hK' : (K == 0) = true := by simp [hK]
        have HAN := hide (HC1.out.1 hK)
        clear hK
        go_wp2_with fail
        refine (RA.out _).mono ?_
        rintro e w6 ⟨rfl, hb6⟩
        have HB7 := hide (below_step HB6.out hb6)
        clear hb6
        go_wp2_with fail
        go_meet
        case rel => exact ⟨by rw [HAN.out], HB7.out⟩
      · have hK' : (K == 0) = false := by simp [hK]
        have HAN := hide (HC1.out.2 hK)
        clear hK
        go_wp2_with fail
        go_meet
        case rel => exact ⟨by rw [HAN.out], HB6.out⟩
    case rest =>
      obtain ⟨rfl, HB7⟩ := hcut
      clear HB6
      go_upto_if 76 with fail
      go_cut [25] (fun x wr => x = .int .i64 TE ∧ Hid (Below w5.heap.size w5 wr))
      case first =>
        by_cases hK : K = 0
        · have hK' : (K == 0) = true := by simp [hK]
          have HAN := hide (HT1.out.1 hK)
          clear hK
          go_wp2_with fail
          refine (RN.out _).mono ?_
          rintro e w6 ⟨rfl, hb6⟩
          have HB8 := hide (below_step HB7.out hb6)
          clear hb6
          go_wp2_with fail
          go_meet
          case rel => exact ⟨by rw [HAN.out], HB8.out⟩
        · have hK' : (K == 0) = false := by simp [hK]
          have HAN := hide (HT1.out.2 hK)
          clear hK
          go_wp2_with fail
          go_meet
          case rel => exact ⟨by rw [HAN.out], HB7.out⟩
      case rest =>
        obtain ⟨rfl, HB8⟩ := hcut
        clear HB7
        have HX : Hid ((a < 0 ∧ FE = 3) ∨ (¬ a < 0 ∧ 16777215 < a ∧ FE = 3) ∨ (¬ a < 0 ∧ ¬ 16777215 < a ∧ b < 0 ∧ FE = 3) ∨ (¬ a < 0 ∧ ¬ 16777215 < a ∧ ¬ b < 0 ∧ 16777215 < b ∧ FE = 3) ∨ (¬ a < 0 ∧ ¬ 16777215 < a ∧ ¬ b < 0 ∧ ¬ 16777215 < b ∧ FE = 0)) := by
          obtain ⟨f1, f2⟩ := HFE.out
          by_cases r1 : a < 0
          · exact .inl ⟨r1, f1 (.inl r1)⟩
          · by_cases r2 : 16777215 < a
            · exact .inr (.inl ⟨r1, r2, f1 (.inr (.inl r2))⟩)
            · by_cases r3 : b < 0
              · exact .inr (.inr (.inl ⟨r1, r2, r3, f1 (.inr (.inr (.inl r3)))⟩))
              · by_cases r4 : 16777215 < b
                · exact .inr (.inr (.inr (.inl ⟨r1, r2, r3, r4, f1 (.inr (.inr (.inr r4)))⟩)))
                · exact .inr (.inr (.inr (.inr ⟨r1, r2, r3, r4, f2 (by omega)⟩)))
        clear HFE
        have HW5 := hide (HB5.out.trans (HB8.out.mono HB5.out.size))
        have HKA := hide (HKA.out.below HB8.out)
        have HKC := hide (HKC.out.below HB8.out)
        have HKT := hide (HKT.out.below HB8.out)
        have HKU := hide (HKU.out.below HB8.out)
        obtain ⟨W8, hW8⟩ : ∃ W, W = wc := ⟨_, rfl⟩
        subst hW8
        clear HB8 HB5 HAV HC1 HT1 RQ RA RN
        rcases HX.out with ⟨r1, rfl⟩ | ⟨r1, r2, rfl⟩ | ⟨r1, r2, r3, rfl⟩ | ⟨r1, r2, r3, r4, rfl⟩ | ⟨r1, r2, r3, r4, rfl⟩
        all_goals clear HX
        all_goals
          as_aux_lemma =>
            go_upto_if 94 with fail
            go_cut [23, 27] (fun x y wr => ∃ ab cb, x = .int .i64 AE ∧ y = .slice ab AA.length cb ∧ Hid (WtsIn wr ab AA ∧ Below W8.heap.size W8 wr))
            case first =>
              by_cases hK : AV = 0
              · have hK' : (AV == 0) = true := by simp [hK]
                have C := hide (RAdd.out hK _ HW5.out)
                clear hK
                go_wp2_with fail
                refine C.out.mono ?_
                intro e w6 h6
                obtain ⟨ab, cb, rfl, hk6, _, hb6⟩ := h6.inn
                have HI := hide hk6
                have HB := hide hb6
                clear hk6 hb6 h6 C
                go_wp2_with fail
                go_meet
                case rel => exact ⟨ab, cb, rfl, rfl, HI.out, HB.out⟩
              · have hK' : (AV == 0) = false := by simp [hK]
                obtain ⟨x1, x2⟩ := HA1.out hK
                have HX1 := hide x1
                have HX2 := hide x2
                clear hK x1 x2
                go_wp2_with fail
                go_meet
                case rel => exact ⟨none, 0, by rw [HX1.out], by rw [HX2.out]; rfl, .inl HX2.out, Below.refl _ _⟩
            case rest =>
              obtain ⟨ab, cb, rfl, rfl, HI1⟩ := hcut
              clear RAdd HA1
              go_upto_if 104 with fail
              go_cut [28] (fun y wr => ∃ ad cd, y = .slice ad CL.length cd ∧ Hid (WtsIn wr ad CL ∧ WtsIn wr ab AA ∧ Below W8.heap.size W8 wr))
              case first =>
                by_cases hK : CE = 0
                · have hK' : (CE == 0) = true := by simp [hK]
                  have C := hide (RCan.out hK _ (HW5.out.trans (HI1.out.2.mono HW5.out.size)))
                  clear hK
                  go_wp2_with fail
                  refine C.out.mono ?_
                  intro e w6 h6
                  obtain ⟨v6, rfl, hown6, hb6⟩ := h6
                  obtain ⟨ad, cd, rfl, hk6, _⟩ := own_wts hown6
                  have HI := hide hk6
                  have HB := hide hb6
                  clear hk6 hb6 hown6 C
                  go_wp2_with fail
                  go_meet
                  case rel => exact ⟨ad, cd, rfl, HI.out, HI1.out.1.below HB.out, below_step HI1.out.2 HB.out⟩
                · have hK' : (CE == 0) = false := by simp [hK]
                  have HX2 := hide (HC2.out hK)
                  clear hK
                  go_wp2_with fail
                  go_meet
                  case rel => exact ⟨none, 0, by rw [HX2.out]; rfl, .inl HX2.out, HI1.out.1, HI1.out.2⟩
              case rest =>
                obtain ⟨ad, cd, rfl, HI2⟩ := hcut
                clear RCan HI1
                go_upto_if 110 with fail
                go_cut [29, 30] (fun y z wr => ∃ af cf ag cg, y = .slice af TA.length cf ∧ z = .slice ag TB.length cg ∧ Hid (WtsIn wr af TA ∧ WtsIn wr ag TB ∧ WtsIn wr ad CL ∧ WtsIn wr ab AA ∧ Below W8.heap.size W8 wr))
                case first =>
                  by_cases hK : TE = 0
                  · have hK' : (TE == 0) = true := by simp [hK]
                    have C := hide (RTel.out hK _ (HW5.out.trans (HI2.out.2.2.mono HW5.out.size)))
                    clear hK
                    go_wp2_with fail
                    refine C.out.mono ?_
                    intro e w6 h6
                    obtain ⟨af, cf, ag, cg, rfl, hk6, hk6', hb6⟩ := h6.inn
                    have HI := hide hk6
                    have HI' := hide hk6'
                    have HB := hide hb6
                    clear hk6 hk6' hb6 h6 C
                    go_wp2_with fail
                    go_meet
                    case rel => exact ⟨af, cf, ag, cg, rfl, rfl, HI.out, HI'.out, HI2.out.1.below HB.out, HI2.out.2.1.below HB.out, below_step HI2.out.2.2 HB.out⟩
                  · have hK' : (TE == 0) = false := by simp [hK]
                    obtain ⟨x1, x2⟩ := HT2.out hK
                    have HX1 := hide x1
                    have HX2 := hide x2
                    clear hK x1 x2
                    go_wp2_with fail
                    go_meet
                    case rel => exact ⟨none, 0, none, 0, by rw [HX1.out]; rfl, by rw [HX2.out]; rfl, .inl HX1.out, .inl HX2.out, HI2.out.1, HI2.out.2.1, HI2.out.2.2⟩
                case rest =>
                  obtain ⟨af, cf, ag, cg, rfl, rfl, HI3⟩ := hcut
                  clear RTel HI2
                  obtain ⟨W9, hW9⟩ : ∃ W, W = wc := ⟨_, rfl⟩
                  subst hW9
                  obtain ⟨q1, q2, q3, q4, q5⟩ := HI3.out
                  have HW9 := hide (HW5.out.trans (q5.mono HW5.out.size))
                  have C1 := hide (fun W (h : Below W9.heap.size W9 W) => CB.out W (HW9.out.trans (h.mono HW9.out.size)))
                  have C2 := hide (fun W (h : Below W9.heap.size W9 W) => CK.out W (HW9.out.trans (h.mono HW9.out.size)))
                  have S1 := hide (fun W (h : Below W9.heap.size W9 W) => watchesAre_yes AA AE aa ab ca cb W ((HKA.out.below q5).below h) (q4.below h) HN1.out HA2.out)
                  have S2 := hide (fun W (h : Below W9.heap.size W9 W) => watchesAre_yes CL CE ac ad cc cd W ((HKC.out.below q5).below h) (q3.below h) HN2.out HC2.out)
                  have S3 := hide (fun W (h : Below W9.heap.size W9 W) => watchesAre_yes TA TE at1 af ct1 cf W ((HKT.out.below q5).below h) (q1.below h) HN3.out.1 (fun x => (HT2.out x).1))
                  have S4 := hide (fun W (h : Below W9.heap.size W9 W) => watchesAre_yes TB TE at2 ag ct2 cg W ((HKU.out.below q5).below h) (q2.below h) HN3.out.2 (fun x => (HT2.out x).2))
                  clear q1 q2 q3 q4 q5 HI3 HKA HKC HKT HKU CB CK HN1 HN2 HN3 HA2 HC2 HT2 HW5
                  have hKK : (K == K) = true := by simp
                  have hBB : (FB == FB) = true := by simp
                  generalize AA.length = mA at *
                  generalize CL.length = mC at *
                  generalize TA.length = mT at *
                  generalize TB.length = mU at *
                  go_wp2_with fail
                  refine (C1.out _ (Below.refl _ _)).mono ?_
                  rintro e v1 ⟨rfl, hv1⟩
                  have HV1 := hide hv1
                  clear hv1 C1
                  go_wp2_with fail
                  refine (C2.out _ HV1.out).mono ?_
                  rintro e v2 ⟨rfl, hv2⟩
                  have HV2 := hide (below_step HV1.out hv2)
                  clear hv2 C2 HV1
                  go_wp2_with fail
                  refine (S1.out _ HV2.out).mono ?_
                  rintro e v3 ⟨rfl, hv3⟩
                  have HV3 := hide (below_step HV2.out hv3)
                  clear hv3 S1 HV2
                  go_wp2_with fail
                  refine (S2.out _ HV3.out).mono ?_
                  rintro e v4 ⟨rfl, hv4⟩
                  have HV4 := hide (below_step HV3.out hv4)
                  clear hv4 S2 HV3
                  go_wp2_with fail
                  refine (S3.out _ HV4.out).mono ?_
                  rintro e v5 ⟨rfl, hv5⟩
                  have HV5 := hide (below_step HV4.out hv5)
                  clear hv5 S3 HV4
                  go_wp2_with fail
                  refine (S4.out _ HV5.out).mono ?_
                  rintro e v6 ⟨rfl, hv6⟩
                  have HV6 := hide (below_step HW9.out (below_step HV5.out hv6))
                  clear hv6 S4 HV5 HW9
                  first
                    | (obtain rfl : FB = false := (HFB.out (by decide)).2
                       clear HFB HF
                       go_wp2
                       go_ret
                       exact ⟨rfl, HV6.out⟩)
                    | (go_wp2_with fail
                       refine (HF.out _ (by first | rfl | trivial)).mono ?_
                       rintro e v7 ⟨rfl, hw7⟩
                       subst hw7
                       go_wp2
                       go_ret
                       exact ⟨rfl, HV6.out⟩)
end Go.Proofs.YtbodjfmbdddieaeDoor
