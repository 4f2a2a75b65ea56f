/-
  dragomanref.textLess, CheckKept, ListOf; dragomanlaw.keptAre: what they answer.
-/
import Derived.Test.YtcldjoklkbbbgadDoorKeepListMath
import Derived.Test.YtcldjoklkbbbgadDoorBetween
import Derived.Test.YtcldjoklkbbbgadDoorTopicForRef
namespace Go.Proofs.YtcldjoklkbbbgadDoor
open Go.RowKit Go.PlainAid

/-- the first k bytes are the same -/
def sameTo (a b : ByteArray) (k : Nat) : Prop := a.toList.take k = b.toList.take k
theorem bl_cut : ∀ (k : Nat) (x y : List UInt8), x.take k = y.take k → Op.bytesLess x y = Op.bytesLess (x.drop k) (y.drop k)
  | 0, _, _, _ => by simp
  | k + 1, [], [], _ => by simp
  | k + 1, [], b :: y, h => by simp at h
  | k + 1, a :: x, [], h => by simp at h
  | k + 1, a :: x, b :: y, h => by
    simp only [List.take_succ_cons, List.cons.injEq] at h
    obtain ⟨rfl, h⟩ := h
    rw [List.drop_succ_cons, List.drop_succ_cons, ← bl_cut k x y h]
    simp [Op.bytesLess]
theorem toList_len (s : ByteArray) : s.toList.length = s.size := by rw [ByteArray.toList_eq]; simp
theorem toList_bt (s : ByteArray) (k : Nat) (h : k < s.size) : ∃ u : UInt8, s.toList[k]? = some u ∧ bt s k = u.toNat := by
  refine ⟨s[k]'h, ?_, by rw [← get_bt s k h]⟩
  rw [ByteArray.toList_eq, Array.getElem?_toList, Array.getElem?_eq_getElem (by simpa using h)]
  rfl
theorem same_next {a b : ByteArray} {k : Nat} (h : sameTo a b k) (ha : k < a.size) (hb : k < b.size) (he : bt a k = bt b k) : sameTo a b (k + 1) := by
  obtain ⟨u, hu, eu⟩ := toList_bt a k ha
  obtain ⟨v, hv, ev⟩ := toList_bt b k hb
  have : u = v := UInt8.toNat_inj.1 (by omega)
  unfold sameTo
  rw [List.take_add_one, List.take_add_one, hu, hv, h, this]
theorem tless_diff {a b : ByteArray} {k : Nat} (h : sameTo a b k) (ha : k < a.size) (hb : k < b.size) (he : bt a k ≠ bt b k) : tless a b = decide (bt a k < bt b k) := by
  obtain ⟨u, hu, eu⟩ := toList_bt a k ha
  obtain ⟨v, hv, ev⟩ := toList_bt b k hb
  have hne : u ≠ v := fun e => he (by rw [eu, ev, e])
  unfold tless
  rw [bl_cut k _ _ h]
  obtain ⟨h1, e1⟩ := List.getElem?_eq_some_iff.1 hu
  obtain ⟨h2, e2⟩ := List.getElem?_eq_some_iff.1 hv
  rw [List.drop_eq_getElem_cons h1, List.drop_eq_getElem_cons h2, e1, e2, eu, ev]
  simp only [Op.bytesLess, beq_false_of_ne hne, Bool.false_and, Bool.or_false]
  apply decide_eq_decide.2
  rw [UInt8.lt_iff_toNat_lt]
  omega
theorem tless_end {a b : ByteArray} {k : Nat} (h : sameTo a b k) (ha : k ≤ a.size) (hb : k ≤ b.size) (he : k = a.size ∨ k = b.size) : tless a b = decide (a.size < b.size) := by
  unfold tless
  rw [bl_cut k _ _ h]
  have la := toList_len a
  have lb := toList_len b
  by_cases h1 : k = b.size
  · have e1 : b.toList.drop k = [] := List.drop_eq_nil_of_le (by omega)
    rw [e1, show Op.bytesLess (a.toList.drop k) [] = false by cases a.toList.drop k <;> rfl]
    exact (decide_eq_false (by omega)).symm
  · have h2 : k = a.size := by omega
    have e1 : a.toList.drop k = [] := List.drop_eq_nil_of_le (by omega)
    have hk : k < b.toList.length := by omega
    rw [e1, List.drop_eq_getElem_cons hk]
    rw [decide_eq_true (show a.size < b.size by omega)]
    rfl

set_option maxHeartbeats 1000000 in
theorem textLess_any (a b : ByteArray) (w : World) (h1 : a.size ≤ 1152921504606846976) (h2 : b.size ≤ 1152921504606846976) :
    Calls Tryd.prog 28 #[.string a, .string b] w fun e w' => e = .returned (.bool (tless a b)) ∧ ∃ m, w' = w.drewN m := by
  have ga := get_bt a
  have gb := get_bt b
  generalize hT : tless a b = T
  have HT := hide hT
  clear hT
  go_enter Tryd.func28, Tryd.ntmps28
  go_wp2
  go_loopw [5] (fun i wr => ∃ k : Nat, k ≤ a.size ∧ k ≤ b.size ∧ i = .int .i64 k ∧ Hid (sameTo a b k ∧ ∃ m, wr = w.drewN m)) (fun i _ => a.size - (intOf i).toNat)
  case atStart => exact ⟨0, by omega, by omega, rfl, by simp [sameTo], 0, rfl⟩
  case round =>
    obtain ⟨k, hka, hkb, rfl, HR⟩ := hrel
    obtain ⟨m, hm⟩ := HR.out.2
    subst hm
    have HS := hide HR.out.1
    clear HR
    by_cases ha : k < a.size
    · by_cases hb : k < b.size
      · by_cases he : bt a k = bt b k
        · have HQ := hide (same_next HS.out ha hb he)
          have he' : (bt a k != bt b k) = false := by simp [he]
          clear he
          go_wp2_with fail
          go_big_quiet (fail)
          go_wp2
          go_round
          case rel => exact ⟨k + 1, by omega, by omega, by go_num, HQ.out, m + nq, rfl⟩
          case measure => simp [intOf]; omega
        · have HQ : Hid (T = decide (bt a k < bt b k)) := by rw [← HT.out]; exact tless_diff HS.out ha hb he
          have he' : (bt a k != bt b k) = true := by simp [he]
          clear he
          go_wp2_with fail
          go_big_quiet (fail)
          go_wp2_with fail
          go_big_quiet (fail)
          go_wp2
          go_ret
          exact ⟨by rw [HQ.out]; rfl, _, by rw [World.drewN_drewN, World.drewN_drewN]⟩
      · have HQ : Hid (T = decide (a.size < b.size)) := by rw [← HT.out]; exact tless_end HS.out hka hkb (by omega)
        go_wp2
        go_ret
        exact ⟨by rw [HQ.out]; rfl, m, rfl⟩
    · have HQ : Hid (T = decide (a.size < b.size)) := by rw [← HT.out]; exact tless_end HS.out hka hkb (by omega)
      go_wp2
      go_ret
      exact ⟨by rw [HQ.out]; rfl, m, rfl⟩

theorem kwrap_in (n : Int) (h1 : 0 ≤ n) (h2 : n < 9223372036854775808) : IntKind.i64.wrap n = n := by
  have e1 : n % 2 ^ 64 = n := by omega
  simp only [IntKind.wrap, IntKind.bits, IntKind.signed, e1]
  rw [if_neg (by simp; omega)]

theorem between_wrap (j : Nat) (h : j < 1000) : IntKind.i64.wrap (j : Int) = (j : Int) := kwrap_in _ (by omega) (by omega)
set_option maxHeartbeats 4000000 in
set_option maxRecDepth 100000 in
theorem checkKept_any (l : List Kp) (ao : Option Addr) (co : Nat) (w : World) (hl : KpsIn w ao l) (hs : ∀ k ∈ l, k.topic.size ≤ 1048576) :
    Calls Tryd.prog 8 #[.slice ao l.length co] w fun e w' => e = .returned (.int .i64 (chkK l)) ∧ Below w.heap.size w w' := by
  by_cases hn : 16 < l.length
  · have hE : chkK l = 2 := if_pos hn
    rw [hE]
    have hn' : (16 : Int) < l.length := by omega
    clear hl hE hn hs
    go_enter Tryd.func8, Tryd.ntmps8
    go_wp2
    go_ret
    exact ⟨rfl, Below.refl _ _⟩
  · have hE : chkK l = chkL ⟨#[]⟩ l := if_neg hn
    rw [hE]
    clear hE
    generalize hE : chkL ⟨#[]⟩ l = E
    have HE := hide hE
    have HL := hide hl
    have HSZ := hide hs
    clear hE hl hs
    go_enter Tryd.func8, Tryd.ntmps8
    go_wp2
    go_loopw [3] (fun i wr => ∃ k : Nat, k ≤ l.length ∧ i = .int .i64 k ∧ Hid (chkL (lastT ⟨#[]⟩ (l.take k)) (l.drop k) = E ∧ Below w.heap.size w wr)) (fun i _ => l.length - (intOf i).toNat)
    case atStart => exact ⟨0, by omega, rfl, HE.out, Below.refl _ _⟩
    case round =>
      obtain ⟨k, hk, rfl, HR⟩ := hrel
      have hsz := HR.out.2.size
      by_cases hlt : k < l.length
      · obtain ⟨b, o, rfl, hb, hcell⟩ := kps_here (HL.out.below HR.out.2) hlt
        obtain ⟨hk1, hk2, hk3⟩ := hcell k hlt
        have HS : Hid (_ = E) := (chkL_step ⟨#[]⟩ l k hlt).symm.trans HR.out.1
        have C : Hid (Calls Tryd.prog 9 #[.string l[k].topic, .bool false] wr fun e w' => e = .returned (.int .i64 (chk nameF l[k].topic)) ∧ Below wr.heap.size wr w') := checkTopic_any l[k].topic false wr (HSZ.out _ (List.getElem_mem _))
        have CT : Hid (0 < k → ∃ j : Nat, j + 1 = k ∧ wr.cell? ⟨b, o + j * 3, none⟩ = some (.string (lastT ⟨#[]⟩ (l.take k))) ∧ ∀ W, Calls Tryd.prog 28 #[.string (lastT ⟨#[]⟩ (l.take k)), .string l[k].topic] W fun e w' => e = .returned (.bool (tless (lastT ⟨#[]⟩ (l.take k)) l[k].topic)) ∧ ∃ m, w' = W.drewN m) := fun h0 => by
          obtain ⟨j, rfl⟩ : ∃ j, k = j + 1 := ⟨k - 1, by omega⟩
          have e := lastT_snoc ⟨#[]⟩ l j (by omega)
          refine ⟨j, rfl, by rw [e]; exact (hcell j (by omega)).1, fun W => textLess_any _ _ W ?_ ?_⟩
          · rw [e]; have := HSZ.out l[j] (List.getElem_mem _); omega
          · have := HSZ.out _ (List.getElem_mem hlt); omega
        have HF0 : Hid (k = 0 → chk nameF l[k].topic = 0 → tless (lastT ⟨#[]⟩ (l.take k)) l[k].topic = true) := fun h0 hc => by
          have : lastT ⟨#[]⟩ (l.take k) = ⟨#[]⟩ := by rw [h0]; rfl
          rw [this]; exact tl_first hc
        have HBR := hide HR.out.2
        clear hcell HL HE HSZ HR
        generalize lastT ⟨#[]⟩ (l.take k) = a at *
        obtain ⟨a', ha'⟩ : ∃ a', lastT ⟨#[]⟩ (l.take (k + 1)) = a' := ⟨_, rfl⟩
        rw [ha'] at HS
        have HA' := hide ha'
        clear ha'
        generalize hkk : l[k] = x at *
        clear hkk
        obtain ⟨t, p, v⟩ := x
        simp only at hk1 hk2 hk3 HS C CT HF0
        have HSN : Hid (chkO ⟨t, p, v⟩ ≠ 0 → E = chkO ⟨t, p, v⟩) := fun h => by rw [← HS.out, if_pos h]
        have HS0 : Hid (chkO ⟨t, p, v⟩ = 0 → (if tless a t = false then 4 else chkL a' (l.drop (k + 1))) = E) := fun h => by rw [← HS.out, if_neg (show ¬ chkO ⟨t, p, v⟩ ≠ 0 from fun x => x h)]
        have HO : Hid ((if chk nameF t ≠ 0 then chk nameF t else if p = ⟨#[]⟩ then 1 else if 200 < p.size then 2 else if v < 1 ∨ 16777215 < v then 3 else 0) = chkO ⟨t, p, v⟩) := rfl
        clear HS
        generalize chkO ⟨t, p, v⟩ = O at *
        generalize chk nameF t = N at *
        have hbz : b < wr.heap.size := hb
        go_wp2_with fail
        refine C.out.mono ?_
        rintro e w1 ⟨rfl, hb1⟩
        have HB1 := hide (HBR.out.trans (hb1.mono hsz))
        have g1 := (hb1.cell (p := ⟨b, _, none⟩) hb).trans hk1
        have g2 := (hb1.cell (p := ⟨b, _, none⟩) hb).trans hk2
        have g3 := (hb1.cell (p := ⟨b, _, none⟩) hb).trans hk3
        have CT : Hid (0 < k → ∃ j : Nat, j + 1 = k ∧ w1.cell? ⟨b, o + j * 3, none⟩ = some (.string a) ∧ ∀ W, Calls Tryd.prog 28 #[.string a, .string t] W fun e w' => e = .returned (.bool (tless a t)) ∧ ∃ m, w' = W.drewN m) := fun h0 => by
          obtain ⟨j, h1, h2, h3⟩ := CT.out h0
          exact ⟨j, h1, (hb1.cell (p := ⟨b, _, none⟩) hb).trans h2, h3⟩
        clear hb1 C hk1 hk2 hk3 HBR
        by_cases h1 : N = 0
        · have h1' : (N != 0) = false := by simp [h1]
          have HF0 := hide (fun h0 => HF0.out h0 h1)
          have HO1 : Hid (_ = O) := (if_neg (show ¬ N ≠ 0 by simp [h1])).symm.trans HO.out
          clear h1 HO
          by_cases h2 : p = ⟨#[]⟩
          · have e2 := txt_yes (l := []) h2
            have HQ : Hid (E = 1) := by
              have : O = 1 := by rw [← HO1.out, if_pos h2]
              rw [HSN.out (by rw [this]; decide), this]; exact rfl
            clear HO1 h2 HSN HS0
            go_wp2
            go_ret
            exact ⟨by rw [HQ.out]; rfl, HB1.out⟩
          · have e2 := txt_no (l := []) h2
            have HO2 : Hid (_ = O) := (if_neg h2).symm.trans HO1.out
            clear h2 HO1
            by_cases h3 : (200 : Int) < p.size
            · have HQ : Hid (E = 2) := by
                have : O = 2 := by rw [← HO2.out, if_pos (show 200 < p.size by omega)]
                rw [HSN.out (by rw [this]; decide), this]; exact rfl
              clear HO2 HSN HS0
              go_wp2
              go_ret
              exact ⟨by rw [HQ.out]; rfl, HB1.out⟩
            · have HO3 : Hid (_ = O) := (if_neg (show ¬ 200 < p.size by omega)).symm.trans HO2.out
              clear HO2
              by_cases h4 : v < 1 ∨ 16777215 < v
              · have HQ : Hid (E = 3) := by
                  have : O = 3 := by rw [← HO3.out, if_pos h4]
                  rw [HSN.out (by rw [this]; decide), this]; exact rfl
                have CB := hide (fun W => between_no v 1 16777215 W (by omega))
                clear HO3 HSN HS0 h4
                go_wp2_with fail
                refine (CB.out _).mono ?_
                rintro e w2 ⟨rfl, hw⟩
                subst hw
                go_wp2
                go_ret
                exact ⟨by rw [HQ.out]; rfl, HB1.out⟩
              · have HS1 : Hid (_ = E) := HS0.out (by rw [← HO3.out, if_neg h4])
                have CB := hide (fun W => between_yes v 1 16777215 W (by omega))
                clear h4 HO3 HSN HS0
                by_cases h5 : 0 < k
                · obtain ⟨j, hj, c0, CTT⟩ := CT.out h5
                  have h5' : (0 : Int) < k := by omega
                  have HCT := hide (fun (W : World) (q : Nat) => Calls.quiet_of (CTT (W.drewN q)))
                  clear CTT CT HF0
                  obtain rfl : k = j + 1 := by omega
                  have hwr : IntKind.i64.wrap (((j + 1 : Nat) : Int) - 1) = (j : Int) := by
                    rw [show (((j + 1 : Nat) : Int) - 1) = (j : Int) by omega]
                    exact (between_wrap j (by omega))
                  have hjl : (j : Int) < l.length := by omega
                  generalize tless a t = B at *
                  cases B with
                  | true =>
                    have HQ : Hid (chkL a' (l.drop (j + 1 + 1)) = E) := by show _ = _; have := HS1.out; simpa using this
                    go_wp2_with fail
                    refine (CB.out _).mono ?_
                    rintro e w2 ⟨rfl, hw⟩
                    subst hw
                    go_wp2_with fail
                    go_big_quiet (exact HCT.out _ _)
                    go_wp2
                    go_round
                    case rel => exact ⟨j + 1 + 1, by omega, by go_num, by rw [HA'.out]; exact HQ.out, kbelow_drewN HB1.out _⟩
                    case measure => simp [intOf]; omega
                  | false =>
                    have HQ : Hid (E = 4) := by rw [← HS1.out, if_pos rfl]; exact rfl
                    go_wp2_with fail
                    refine (CB.out _).mono ?_
                    rintro e w2 ⟨rfl, hw⟩
                    subst hw
                    go_wp2_with fail
                    go_big_quiet (exact HCT.out _ _)
                    go_wp2
                    go_ret
                    exact ⟨by rw [HQ.out]; rfl, kbelow_drewN HB1.out _⟩
                · obtain rfl : k = 0 := by omega
                  have hB := HF0.out rfl
                  have HQ : Hid (chkL a' (l.drop (0 + 1)) = E) := by show _ = _; have := HS1.out; rw [hB] at this; simpa using this
                  clear HS1 hB HF0 CT
                  go_wp2_with fail
                  refine (CB.out _).mono ?_
                  rintro e w2 ⟨rfl, hw⟩
                  subst hw
                  go_wp2_with fail
                  go_big_quiet (fail)
                  go_wp2
                  go_round
                  case rel => exact ⟨0 + 1, by omega, by go_num, by rw [HA'.out]; exact HQ.out, kbelow_drewN HB1.out _⟩
                  case measure => simp [intOf]; omega
        · have h1' : (N != 0) = true := by simp [h1]
          have HQ : Hid (E = N) := by
            have : O = N := by rw [← HO.out, if_pos h1]
            rw [HSN.out (by rw [this]; exact h1), this]; exact rfl
          clear HO HSN HS0 h1
          go_wp2
          go_ret
          exact ⟨by rw [HQ.out]; rfl, HB1.out⟩
      · have hke : l.drop k = [] := List.drop_eq_nil_of_le (by omega)
        have HQ : Hid (E = 0) := by have := HR.out.1; rw [hke, chkL] at this; exact this.symm
        clear hke
        go_wp2
        go_ret
        exact ⟨by rw [HQ.out]; rfl, HR.out.2⟩
end Go.Proofs.YtcldjoklkbbbgadDoor
