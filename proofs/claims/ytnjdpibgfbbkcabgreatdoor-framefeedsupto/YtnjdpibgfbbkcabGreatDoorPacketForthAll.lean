/-
  What was read, and the bytes that told it: plain facts (for the way from bytes to packets and back).
-/
import Derived.Test.YtnjdpibgfbbkcabGreatDoorWireBackMath
import Derived.Test.YtnjdpibgfbbkcabGreatDoorPacketBackJoined
namespace Go.Proofs.YtnjdpibgfbbkcabGreatDoor
open Go.RowKit Go.PlainAid

theorem numE_in2 {v : Int} {k : Nat} (hk : k = 1 ∨ k = 2) (h0 : 0 ≤ v) (h1 : v < 256 ^ k) : numE v k = 0 := by
  refine numE_ok (by omega) ?_
  rcases hk with rfl | rfl
  · simp at h1 ⊢; omega
  · simp at h1 ⊢; omega
/-- the bytes ahead of a place -/
def pre (s : ByteArray) (n : Nat) : ByteArray := s.extract 0 n
theorem pre_list (s : ByteArray) (n : Nat) : (pre s n).data.toList = s.data.toList.take n := by
  rw [pre, Lib.extract_data, List.drop_zero, Nat.sub_zero]
theorem pre_all (s : ByteArray) : pre s s.size = s := by
  apply ByteArray.ext; apply Array.toList_inj.1
  rw [pre_list, List.take_of_length_le (by simp)]
theorem pre_ext (s : ByteArray) {n m : Nat} (h : n ≤ m) : pre s m = pre s n ++ s.extract n m := by
  apply ByteArray.ext; apply Array.toList_inj.1
  rw [ByteArray.data_append, Array.toList_append, pre_list, pre_list, Lib.extract_data]
  conv => lhs; rw [show m = n + (m - n) by omega, List.take_add]
theorem getD_lt (s : ByteArray) (n : Nat) : (s.data.toList.getD n 0).toNat < 256 := (s.data.toList.getD n 0).toNat_lt
theorem byte_back (u : UInt8) (n : Nat) (h : n = u.toNat) : UInt8.ofNat n = u := by subst h; simp
theorem pre_num1 (s : ByteArray) (n : Nat) (h : n + 1 ≤ s.size) : pre s (n + 1) = pre s n ++ numS (beN s n 1 : Int) 1 := by
  have hlt := beN_lt s n 1
  have hE : numE (beN s n 1 : Int) (1 : Nat) = 0 := numE_in2 (.inl rfl) (by omega) (by simp at hlt ⊢; omega)
  have hl : s.data.toList.length = s.size := by simp
  apply ByteArray.ext; apply Array.toList_inj.1
  rw [ByteArray.data_append, Array.toList_append, pre_list, pre_list]
  rw [show numS (beN s n 1 : Int) 1 = _ from numS_ok hE, strOfNums_data]
  rw [List.take_succ_eq_append_getElem (by omega)]
  congr 1
  have hg : s.data.toList.getD n 0 = s.data.toList[n] := by rw [List.getD_eq_getElem?_getD, List.getElem?_eq_getElem (by omega)]; rfl
  have hb := getD_lt s n
  simp only [beN, Nat.mul_zero, Nat.zero_add, Nat.add_zero]
  rw [hg] at hb ⊢
  simp only [Array.getElem_toList] at hb ⊢
  generalize s.data[n]'(by have : s.data.size = s.size := rfl; omega) = x at *
  rw [show beL (Int.toNat 1) ((x.toNat : Nat) : Int) = [((x.toNat : Nat) : Int) % 256] from rfl]
  simp only [List.map_cons, List.map_nil]
  rw [byte_back x _ (by omega)]
theorem pre_num2 (s : ByteArray) (n : Nat) (h : n + 2 ≤ s.size) : pre s (n + 2) = pre s n ++ numS (beN s n 2 : Int) 2 := by
  have hlt := beN_lt s n 2
  have hE : numE (beN s n 2 : Int) (2 : Nat) = 0 := numE_in2 (.inr rfl) (by omega) (by simp at hlt ⊢; omega)
  have hl : s.data.toList.length = s.size := by simp
  apply ByteArray.ext; apply Array.toList_inj.1
  rw [ByteArray.data_append, Array.toList_append, pre_list, pre_list]
  rw [show numS (beN s n 2 : Int) 2 = _ from numS_ok hE, strOfNums_data]
  rw [List.take_succ_eq_append_getElem (i := n + 1) (by omega), List.take_succ_eq_append_getElem (i := n) (by omega), List.append_assoc]
  congr 1
  have g0 : s.data.toList.getD n 0 = s.data.toList[n] := by rw [List.getD_eq_getElem?_getD, List.getElem?_eq_getElem (by omega)]; rfl
  have g1 : s.data.toList.getD (n + 1) 0 = s.data.toList[n + 1] := by rw [List.getD_eq_getElem?_getD, List.getElem?_eq_getElem (by omega)]; rfl
  have b0 := getD_lt s n
  have b1 := getD_lt s (n + 1)
  simp only [beN, Nat.mul_zero, Nat.zero_add, Nat.add_zero]
  rw [g0] at b0 ⊢
  rw [g1] at b1 ⊢
  simp only [Array.getElem_toList] at b0 b1 ⊢
  generalize s.data[n]'(by have : s.data.size = s.size := rfl; omega) = x at *
  generalize s.data[n + 1]'(by have : s.data.size = s.size := rfl; omega) = y at *
  rw [show ∀ v : Int, beL (Int.toNat 2) v = [v / 256 % 256, v % 256] from fun v => rfl]
  simp only [List.map_cons, List.map_nil, List.singleton_append]
  rw [byte_back x _ (by omega), byte_back y _ (by omega)]
end Go.Proofs.YtnjdpibgfbbkcabGreatDoor
/-
  What is decoded was encoded so: from bytes to a packet, and back to the same bytes: plain facts.
-/
namespace Go.Proofs.YtnjdpibgfbbkcabGreatDoor
open Go.RowKit Go.PlainAid

theorem beN_one (s : ByteArray) (n : Nat) : (beN s n 1 : Int) = bt s n := by
  rw [bt_getD]; simp [beN]
theorem pre_byte (s : ByteArray) (n : Nat) (h : n + 1 ≤ s.size) : pre s (n + 1) = pre s n ++ strOfNums [bt s n] := by
  have hb := bt_le s n
  have h0 := bt_nonneg s n
  rw [pre_num1 s n h, beN_one, show numS (bt s n) 1 = _ from numS_ok (numE_in (k := 1) (.inl rfl) h0 (by simp; omega))]
  rw [show beL (Int.toNat 1) (bt s n) = [bt s n % 256] from rfl, show bt s n % 256 = bt s n by omega]

/-- what was read as a long number stands there -/
theorem gl_forth (s : ByteArray) (a : Nat) : ∀ (f i : Nat) (m r j : Int), glGo s a (f + 1) i m = (r, j, 0) →
    ∃ q : Nat, r = m + (q : Int) * 128 ^ i ∧ (0 < i → 0 < q) ∧ ∃ k : Nat, j = k ∧ i < k ∧ a + k ≤ s.size ∧ pre s (a + k) = pre s (a + i) ++ strOfNums (longL f q) := by
  intro f
  induction f with
  | zero =>
    intro i m r j h
    have h0 := bt_nonneg s (a + i)
    rw [glGo] at h
    split at h
    · simp at h
    · rename_i h1
      split at h
      · simp [glGo] at h
      · rename_i h2
        split at h
        · simp at h
        · rename_i h3
          simp only [Prod.mk.injEq] at h
          refine ⟨(bt s (a + i)).toNat, ?_, fun hi => ?_, i + 1, ?_, by omega, by omega, ?_⟩
          · rw [← h.1, show bt s (a + i) % 128 = bt s (a + i) by omega, Int.toNat_of_nonneg h0]
          · rcases Nat.eq_zero_or_pos (bt s (a + i)).toNat with e | e
            · exact absurd ⟨by omega, hi⟩ h3
            · exact e
          · rw [← h.2.1]; rfl
          · rw [show a + (i + 1) = a + i + 1 by omega, pre_byte s (a + i) (by omega), longL, Int.toNat_of_nonneg h0, show bt s (a + i) % 256 = bt s (a + i) by omega]
  | succ f ih =>
    intro i m r j h
    have h0 := bt_nonneg s (a + i)
    have hle := bt_le s (a + i)
    rw [glGo] at h
    split at h
    · simp at h
    · rename_i h1
      split at h
      · rename_i h2
        obtain ⟨q, hr, hq, k, hj, hk, hs, hp⟩ := ih _ _ _ _ h
        have hq' := hq (by omega)
        refine ⟨(bt s (a + i) % 128).toNat + q * 128, ?_, fun _ => by omega, k, hj, by omega, hs, ?_⟩
        · rw [hr, Int.pow_succ]
          have e : (((bt s (a + i) % 128).toNat + q * 128 : Nat) : Int) = bt s (a + i) % 128 + (q : Int) * 128 := by omega
          rw [e, Int.add_mul, Int.add_assoc]
          congr 2
          rw [Int.mul_comm (128 ^ i) 128, ← Int.mul_assoc]
        · have e : longL (f + 1) ((bt s (a + i) % 128).toNat + q * 128) = bt s (a + i) :: longL f q := by
            rw [longL, if_neg (by omega)]
            congr 1
            · omega
            · congr 1; omega
          rw [hp, e, show a + (i + 1) = a + i + 1 by omega, pre_byte s (a + i) (by omega), ba_assoc, str_cat]
          rfl
      · rename_i h2
        split at h
        · simp at h
        · rename_i h3
          simp only [Prod.mk.injEq] at h
          refine ⟨(bt s (a + i)).toNat, ?_, fun hi => ?_, i + 1, ?_, by omega, by omega, ?_⟩
          · rw [← h.1, show bt s (a + i) % 128 = bt s (a + i) by omega, Int.toNat_of_nonneg h0]
          · rcases Nat.eq_zero_or_pos (bt s (a + i)).toNat with e | e
            · exact absurd ⟨by omega, hi⟩ h3
            · exact e
          · rw [← h.2.1]; rfl
          · rw [show a + (i + 1) = a + i + 1 by omega, pre_byte s (a + i) (by omega), longL, if_pos (by omega), Int.toNat_of_nonneg h0]

/-- a number that was read stands there -/
theorem rn_forth {s : ByteArray} {n k : Nat} {bad : Bool} (hk : k = 1 ∨ k = 2) (h : rnBad s n k bad = false) :
    bad = false ∧ pre s (rnAt s n k) = pre s n ++ numS (getR s n k).1 k ∧ n + k ≤ s.size ∧ rnAt s n k = n + k := by
  simp only [rnBad, Bool.or_eq_false_iff, Bool.not_eq_false', beq_iff_eq] at h
  have hz := getR_ok h.2
  have ha : rnAt s n k = n + k := by unfold rnAt; rw [if_pos h.2]
  have hg : (getR s n k).1 = (beN s n k : Int) := by
    unfold getR
    rw [if_neg (by omega), if_neg (by omega), if_neg (by omega)]
    simp
  refine ⟨h.1, ?_, hz, ha⟩
  rw [ha, hg]
  rcases hk with rfl | rfl
  · exact pre_num1 s n hz
  · exact pre_num2 s n hz
/-- a text that was read stands there -/
theorem rt_forth {s : ByteArray} {n : Nat} {bad : Bool} (h : rtBad s n bad = false) :
    bad = false ∧ pre s (rtAt s n) = pre s n ++ txtS (gtR s n).1 ∧ rtAt s n ≤ s.size := by
  simp only [rtBad, Bool.or_eq_false_iff, Bool.not_eq_false', beq_iff_eq] at h
  refine ⟨h.1, ?_⟩
  have hb := beN_lt s n 2
  have hg : n + 2 + beN s n 2 ≤ s.size ∧ gtR s n = (s.extract (n + 2) (n + 2 + beN s n 2), 2 + (beN s n 2 : Int), 0) := by
    have h2 := h.2
    unfold gtR at h2 ⊢
    simp only [Int.toNat_natCast] at h2 ⊢
    split at h2
    · simp at h2
    · rename_i e1
      split at h2
      · simp at h2
      · rename_i e2
        split at h2
        · simp at h2
        · rename_i e3
          rw [if_neg e1, if_neg e2, if_neg e3]
          exact ⟨by omega, rfl⟩
  have hat : rtAt s n = n + 2 + beN s n 2 := by unfold rtAt; rw [hg.2]; simp only; omega
  have hsz : (s.extract (n + 2) (n + 2 + beN s n 2)).size = beN s n 2 := by rw [ByteArray.size_extract]; omega
  rw [hat, hg.2]
  refine ⟨?_, hg.1⟩
  simp only
  rw [txtS, if_neg (by rw [hsz]; simp at hb; omega), textS, hsz, pre_ext s (n := n + 2) (by omega), pre_num2 s n (by omega), ba_assoc]
  congr 2
  rw [show numS (beN s n 2 : Int) 2 = _ from numS_ok (numE_in (k := 2) (.inr rfl) (by omega) (by simp at hb ⊢; omega))]
  rfl

theorem asks_forth {s : ByteArray} {kind : Int} : ∀ (f n : Nat) (bad : Bool) (l L : List (ByteArray × Int)), rAsks s kind f n bad l = (L, s.size, false) → L.length ≤ 5 →
    bad = false ∧ ∃ l', L = l ++ l' ∧ s = pre s n ++ asksS kind l' := by
  intro f
  induction f with
  | zero =>
    intro n bad l L h _
    simp only [rAsks, Prod.mk.injEq] at h
    obtain ⟨rfl, rfl, rfl⟩ := h
    exact ⟨rfl, [], by simp, by rw [asksS, ba_append_nil, pre_all]⟩
  | succ f ih =>
    intro n bad l L h hl
    rw [rAsks] at h
    split at h
    · rename_i hc
      obtain ⟨h1, l', h2, h3⟩ := ih _ _ _ _ h hl
      have hle : l.length ≤ 5 := by
        rcases Nat.lt_or_ge 5 l.length with hx | hx
        · rw [h2, List.length_append, addTo, if_neg (by omega)] at hl; omega
        · exact hx
      rw [addTo, if_pos hle] at h2
      refine ⟨hc.1, a1 s kind n :: l', by rw [h2]; simp, ?_⟩
      rw [asksS, ← ba_assoc]
      rw [hc.1] at h1
      have e : pre s n ++ askS kind (a1 s kind n) = pre s (a1At s kind n) := by
        unfold a1Bad at h1
        unfold askS a1 a1At
        by_cases h8 : kind = 8
        · rw [if_pos h8] at h1 ⊢
          simp only [if_pos h8]
          obtain ⟨b1, p1, _, _⟩ := rn_forth (.inl rfl) h1
          obtain ⟨_, p2, _⟩ := rt_forth b1
          rw [p1, p2, numsS_one, ba_assoc]; rfl
        · rw [if_neg h8] at h1 ⊢
          simp only [if_neg h8]
          obtain ⟨_, p2, _⟩ := rt_forth h1
          rw [p2, ba_append_nil]
      rw [e]; exact h3
    · simp only [Prod.mk.injEq] at h
      obtain ⟨rfl, rfl, rfl⟩ := h
      exact ⟨rfl, [], by simp, by rw [asksS, ba_append_nil, pre_all]⟩
theorem codes_forth {s : ByteArray} : ∀ (f n : Nat) (bad : Bool) (l L : List Int), rCodes s f n bad l = (L, s.size, false) → L.length ≤ 5 →
    bad = false ∧ ∃ l', L = l ++ l' ∧ s = pre s n ++ numsS 1 l' := by
  intro f
  induction f with
  | zero =>
    intro n bad l L h _
    simp only [rCodes, Prod.mk.injEq] at h
    obtain ⟨rfl, rfl, rfl⟩ := h
    exact ⟨rfl, [], by simp, by rw [numsS, ba_append_nil, pre_all]⟩
  | succ f ih =>
    intro n bad l L h hl
    rw [rCodes] at h
    split at h
    · rename_i hc
      obtain ⟨h1, l', h2, h3⟩ := ih _ _ _ _ h hl
      have hle : l.length ≤ 5 := by
        rcases Nat.lt_or_ge 5 l.length with hx | hx
        · rw [h2, List.length_append, addTo, if_neg (by omega)] at hl; omega
        · exact hx
      rw [addTo, if_pos hle] at h2
      refine ⟨hc.1, (getR s n (1 : Nat)).1 :: l', by rw [h2]; simp, ?_⟩
      obtain ⟨_, p1, _, _⟩ := rn_forth (.inl rfl) h1
      rw [numsS, ← ba_assoc]
      rw [p1] at h3
      exact h3
    · simp only [Prod.mk.injEq] at h
      obtain ⟨rfl, rfl, rfl⟩ := h
      exact ⟨rfl, [], by simp, by rw [numsS, ba_append_nil, pre_all]⟩

theorem flag_forth {v m : Int} (hm : m ≠ 0) (h : (v == 0 || v == m) = true) : flagN (v == m) m = v := by
  simp only [Bool.or_eq_true, beq_iff_eq] at h
  rcases h with rfl | rfl
  · rw [show ((0 : Int) == m) = false by simp; omega]; rfl
  · simp [flagN]
theorem rm_forth {s : ByteArray} {n : Nat} {m : Int} {bad : Bool} (h : rmBad s n m bad = false) : rnBad s n 1 bad = false ∧ ((getR s n (1 : Nat)).1 == 0 || (getR s n (1 : Nat)).1 == m) = true := by
  simp only [rmBad, Bool.or_eq_false_iff, Bool.not_eq_false'] at h
  exact h

theorem bodyR_kind (s : ByteArray) (n : Nat) (bad : Bool) (b : Nat) : (bodyR s n bad b).1.kind = (kPk b).kind := by
  unfold bodyR
  split
  · rfl
  · split
    · rfl
    · split
      · rfl
      · split
        · rfl
        · unfold widR
          split
          · rfl
          · split <;> rfl

/-- a body that was read stands there -/
theorem body_forth {s : ByteArray} {n b : Nat} {bad : Bool} (h1 : (bodyR s n bad b).2.2 = false) (h2 : (bodyR s n bad b).2.1 = s.size) (hc : chkP (bodyR s n bad b).1 = 0) : s = pre s n ++ bodyS (bodyR s n bad b).1 := by
  have hkk := bodyR_kind s n bad b
  have hok := chkP_ok hc
  unfold bodyS
  rw [hkk]
  unfold bodyR at *
  by_cases k1 : (kPk b).kind = 1
  · rw [if_pos k1] at *
    simp only at h1 h2 ⊢
    obtain ⟨b4, p5, _⟩ := rt_forth h1
    obtain ⟨b3, p4, _, _⟩ := rn_forth (.inr rfl) b4
    obtain ⟨b3', f3⟩ := rm_forth b3
    obtain ⟨b2, p3, _, _⟩ := rn_forth (.inl rfl) b3'
    simp only [conB2, Bool.or_eq_false_iff, Bool.not_eq_false', beq_iff_eq] at b2
    obtain ⟨b1, p2, _, _⟩ := rn_forth (.inl rfl) b2.1
    simp only [conB1, Bool.or_eq_false_iff, Bool.not_eq_false'] at b1
    obtain ⟨_, p1, _⟩ := rt_forth b1.1
    have eM : (gtR s n).1 = ⟨#[77, 81, 84, 84]⟩ := by
      have hb := b1.2
      cases hd : decide ((gtR s n).1 = ⟨#[77, 81, 84, 84]⟩) with
      | true => exact of_decide_eq_true hd
      | false => rw [txt_no (l := [77, 81, 84, 84]) (of_decide_eq_false hd)] at hb; simp at hb
    have hfin : s = pre s (conN5 s n) := by rw [h2, pre_all]
    rw [if_pos k1, connectS, numsS_two, numsS_one]
    simp only [conP]
    rw [flag_forth (by decide) f3]
    conv => lhs; rw [hfin]
    unfold conN5
    rw [p5]
    unfold conN4
    rw [p4]
    unfold conN3
    rw [p3]
    unfold conN2
    rw [p2, p1, eM, b2.2]
    simp only [ba_assoc]
    rfl
  · rw [if_neg k1] at *
    rw [if_neg k1]
    by_cases k2 : (kPk b).kind = 2
    · rw [if_pos k2] at *
      rw [if_pos k2]
      simp only at h1 h2 ⊢
      obtain ⟨b2, p2, _, _⟩ := rn_forth (.inl rfl) h1
      obtain ⟨b1, f1⟩ := rm_forth b2
      obtain ⟨_, p1, _, _⟩ := rn_forth (.inl rfl) b1
      rw [flag_forth (by decide) f1, numsS_two]
      have hfin : s = pre s (rnAt s (rnAt s n 1) 1) := by rw [h2, pre_all]
      conv => lhs; rw [hfin]
      rw [p2, p1]
      simp only [ba_assoc]
      rfl
    · rw [if_neg k2] at *
      rw [if_neg k2]
      by_cases k3 : (kPk b).kind = 3
      · rw [if_pos k3] at *
        rw [if_pos k3]
        simp only at h1 ⊢
        unfold pubB at h1
        rw [publishS]
        simp only [pubP]
        by_cases hb : bitB b 2 = true
        · rw [if_pos hb] at h1
          simp only [if_pos hb]
          obtain ⟨b2, p2, z2, a2⟩ := rn_forth (.inr rfl) h1
          obtain ⟨_, p1, _⟩ := rt_forth b2
          rw [if_pos trivial, numsS_one]
          have : pubN s n b = rnAt s (rtAt s n) 2 := if_pos hb
          rw [this]
          conv => lhs; rw [← pre_all s, pre_ext s (n := rnAt s (rtAt s n) 2) (by omega), p2, p1]
          simp only [ba_assoc]
          rfl
        · rw [if_neg hb] at h1
          simp only [if_neg hb]
          obtain ⟨_, p1, z1⟩ := rt_forth h1
          rw [if_neg (show ¬ (kPk b).qos = 1 by simp [kPk, zeroPk]), ba_append_nil]
          have : pubN s n b = rtAt s n := if_neg hb
          rw [this]
          conv => lhs; rw [← pre_all s, pre_ext s (n := rtAt s n) (by omega), p1]
          simp only [ba_assoc]
      · rw [if_neg k3] at *
        rw [if_neg k3]
        by_cases k4 : (kPk b).kind = 12 ∨ (kPk b).kind = 13 ∨ (kPk b).kind = 14
        · rw [if_pos k4] at *
          simp only at h2
          rw [ba_append_nil, h2, pre_all]
        · rw [if_neg k4] at *
          rw [if_neg k4, withIdS]
          unfold widR at *
          by_cases k8 : (kPk b).kind = 8 ∨ (kPk b).kind = 10
          · rw [if_pos k8] at *
            simp only at h1 h2 hok ⊢
            obtain ⟨b1, l', e1, e2⟩ := asks_forth _ _ _ _ _ (show rAsks s (kPk b).kind (s.size + 1) (rnAt s n 2) (rnBad s n 2 bad) [] = (_, s.size, false) from Prod.ext rfl (Prod.ext h2 h1)) hok.2.2.2.1
            obtain ⟨_, p1, _, _⟩ := rn_forth (.inr rfl) b1
            have e1' : (rAsks s (kPk b).kind (s.size + 1) (rnAt s n 2) (rnBad s n 2 bad) []).fst = [] ++ l' := e1
            rw [e1', numsS_one, show (kPk b).codes = [] from rfl, numsS, ba_append_nil, List.nil_append, ← ba_assoc]
            rw [p1] at e2
            exact e2
          · rw [if_neg k8] at *
            by_cases k9 : (kPk b).kind = 9
            · rw [if_pos k9] at *
              simp only at h1 h2 hok ⊢
              obtain ⟨b1, l', e1, e2⟩ := codes_forth _ _ _ _ _ (show rCodes s (s.size + 1) (rnAt s n 2) (rnBad s n 2 bad) [] = (_, s.size, false) from Prod.ext rfl (Prod.ext h2 h1)) hok.2.2.2.2.1
              obtain ⟨_, p1, _, _⟩ := rn_forth (.inr rfl) b1
              have e1' : (rCodes s (s.size + 1) (rnAt s n 2) (rnBad s n 2 bad) []).fst = [] ++ l' := e1
              rw [e1', numsS_one, show (kPk b).asks = [] from rfl, asksS, ba_append_nil, List.nil_append, ← ba_assoc]
              rw [p1] at e2
              exact e2
            · rw [if_neg k9] at *
              simp only at h1 h2 ⊢
              obtain ⟨_, p1, _, _⟩ := rn_forth (.inr rfl) h1
              rw [numsS_one, show (kPk b).asks = [] from rfl, show (kPk b).codes = [] from rfl, asksS, numsS, ba_append_nil, ba_append_nil]
              conv => lhs; rw [← pre_all s, ← h2, p1]
              rfl

/-- NOTHING ELSE IS DECODED: what is decoded is encoded to the same bytes -/
theorem enc_dec {s : ByteArray} (h : decE s = 0) : chkP (decP s) = 0 ∧ encP (decP s) = s := by
  have hp : decP s = rdP s := by unfold decP; rw [if_pos h]
  unfold decE at h
  cases hr : rdB s with
  | false => rw [if_pos hr] at h; simp at h
  | true =>
    rw [if_neg (by simp [hr])] at h
    rw [hp]
    refine ⟨h, ?_⟩
    simp only [rdB, Bool.and_eq_true, Bool.not_eq_true', decide_eq_true_eq] at hr
    obtain ⟨hl, hb, ha⟩ := hr
    obtain ⟨u, hu, he, hu1, hu4, hus, hv⟩ := lenOk_ok hl
    have hrd : rdP s = (packR s (1 + u) false (bt s 0).toNat).1 := by unfold rdP; rw [if_pos hl, hu]; rfl
    rw [hu, Int.toNat_natCast] at hb ha
    rw [hrd] at h ⊢
    simp only [packR, Bool.or_eq_false_iff, Bool.not_eq_false', beq_iff_eq, Bool.false_or] at h hb ha ⊢
    have hs := body_forth hb.1 ha h
    revert hs h hb ha
    generalize (bodyR s (1 + u) (!kindB (kPk (bt s 0).toNat).kind) (bt s 0).toNat).1 = p
    intro h hb ha hs
    have h0 := bt_nonneg s 0
    have hle := bt_le s 0
    have hsz : s.size = 1 + u + (bodyS p).size := by
      have e := congrArg ByteArray.size hs
      rw [ByteArray.size_append, pre, ByteArray.size_extract] at e
      omega
    have hg : glGo s 1 4 0 0 = (((bodyS p).size : Int), (u : Int), 0) := by
      have e : glR s 1 = glGo s 1 4 0 0 := by unfold glR; rw [if_neg (by omega)]; rfl
      rw [← e]
      refine Prod.ext ?_ (Prod.ext hu he)
      rw [hv]; simp only; omega
    obtain ⟨q, hq, _, k, hk, _, _, hpre⟩ := gl_forth s 1 3 0 0 _ _ hg
    have hqq : q = (bodyS p).size := by simp at hq; omega
    have hku : k = u := by omega
    subst hku
    have hlen := glGo_le s 1 (by rw [hg])
    rw [hg] at hlen
    simp only at hlen
    rw [encP, numsS_one, longS, if_neg (by omega), hb.2, Int.toNat_of_nonneg h0, Int.toNat_natCast, ← hqq]
    conv => rhs; rw [hs, hpre]
    rw [show 1 + 0 = 0 + 1 from rfl, pre_num1 s 0 (by omega), beN_one]
    have e0 : pre s 0 = ⟨#[]⟩ := by
      apply ByteArray.ext; apply Array.toList_inj.1
      rw [pre_list]; simp
    rw [e0, str_nil]
end Go.Proofs.YtnjdpibgfbbkcabGreatDoor
