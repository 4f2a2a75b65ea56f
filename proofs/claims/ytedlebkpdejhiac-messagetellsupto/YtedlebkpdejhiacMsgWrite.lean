/-
  message.number, amount, optionHead, written, Encode: what they answer.
-/
import Derived.Test.YtedlebkpdejhiacMsgCheck
import Derived.Test.YtedlebkpdejhiacSbBase
import Derived.Deep.DeepCutAuto
import Derived.Test.YtedlebkpdejhiacWireNumber
namespace Go.Proofs.Ytedlebkpdejhiac
open Go.RowKit Go.PlainAid Sb

theorem string_here (N b : Nat) (bs : ByteArray) (w : World) (h : Bd N b bs w) : Calls Try.prog 26 #[.pointer (some ⟨b, 0, none⟩)] w fun e w' => e = .returned (.string bs) ∧ KeptN N b w w' := by
  refine (string_any N w.heap.size b bs w h (fun p v hpv g hg => ?_)).mono ?_
  · obtain ⟨p', v', _, hb', ho', _, _⟩ := h
    rw [hb'] at hpv
    simp only [Option.some.injEq, Obj.cells.injEq, Array.mk.injEq, List.cons.injEq] at hpv
    obtain ⟨⟨_, rfl, _⟩, _⟩ := hpv
    exact (ho'.lt g hg).2
  · rintro e w' ⟨rfl, hk, _⟩
    exact ⟨rfl, hk⟩

theorem mnum_le4 (x n : Int) : (numS x n).size ≤ 4 := by
  unfold numS
  split
  · rename_i h
    rw [strOfNums_size, beL_length]
    unfold numE at h
    split at h
    · simp at h
    · omega
  · decide
theorem half_le4 (n : Int) : (halfS n).size ≤ 4 := by
  unfold halfS
  split
  · decide
  · split
    · exact mnum_le4 _ _
    · exact mnum_le4 _ _

set_option maxHeartbeats 1000000 in
theorem mnumber_any (n b : Int) (w : World) : Calls Try.prog 24 #[.int .i64 n, .int .i64 b] w fun e w' => e = .returned (.string (numS n b)) ∧ Below w.heap.size w w' := by
  go_enter Try.func24, Try.ntmps24
  go_wp2_with fail
  refine (number_any n b _).mono ?_
  rintro e w1 ⟨rfl, hb1⟩
  have HB := hide hb1
  clear hb1
  go_wp2
  go_ret
  exact ⟨rfl, HB.out⟩

set_option maxHeartbeats 1000000 in
theorem wamount_any (n : Int) (w : World) (h : n ≤ 9223372036854775807) : Calls Try.prog 32 #[.int .i64 n] w fun e w' => e = .returned (.tuple #[.int .i64 (halfN n), .string (halfS n)]) ∧ Below w.heap.size w w' := by
  unfold halfN halfS
  by_cases h1 : n < 13
  · rw [if_pos h1, if_pos h1]
    go_enter Try.func32, Try.ntmps32
    go_wp2
    go_ret2
    exact ⟨rfl, Below.refl _ _⟩
  · rw [if_neg h1, if_neg h1]
    by_cases h2 : n < 269
    · rw [if_pos h2, if_pos h2]
      go_enter Try.func32, Try.ntmps32
      go_wp2_with fail
      refine (mnumber_any _ _ _).mono ?_
      rintro e w1 ⟨rfl, hb1⟩
      have HB := hide hb1
      clear hb1
      go_wp2
      go_ret2
      exact ⟨rfl, HB.out⟩
    · rw [if_neg h2, if_neg h2]
      go_enter Try.func32, Try.ntmps32
      go_wp2_with fail
      refine (mnumber_any _ _ _).mono ?_
      rintro e w1 ⟨rfl, hb1⟩
      have HB := hide hb1
      clear hb1
      go_wp2
      go_ret2
      exact ⟨rfl, HB.out⟩

set_option maxHeartbeats 1000000 in
theorem optionHead_any (a b : Int) (w : World) (h1 : 0 ≤ a) (h2 : a ≤ 65804) (h3 : 0 ≤ b) (h4 : b ≤ 65804) : Calls Try.prog 25 #[.int .i64 a, .int .i64 b] w fun e w' => e = .returned (.string (headS a b)) ∧ Below w.heap.size w w' := by
  have C1 := hide (fun W => wamount_any a W (by omega))
  have C2 := hide (fun W => wamount_any b W (by omega))
  have q1 : 0 ≤ halfN a ∧ halfN a ≤ 14 := by unfold halfN; split <;> (try split) <;> omega
  have q2 : 0 ≤ halfN b ∧ halfN b ≤ 14 := by unfold halfN; split <;> (try split) <;> omega
  obtain ⟨q1, q1'⟩ := q1
  obtain ⟨q2, q2'⟩ := q2
  have z1 := half_le4 a
  have z2 := half_le4 b
  unfold headS
  revert C1 C2 q1 q1' q2 q2' z1 z2
  generalize halfN a = x
  generalize halfN b = y
  generalize halfS a = s
  generalize halfS b = t
  intro C1 C2 q1 q1' q2 q2' z1 z2
  have z3 := mnum_le4 (x * 16 + y) 1
  clear h1 h2 h3 h4
  go_enter Try.func25, Try.ntmps25
  go_wp2_with fail
  refine (C1.out _).mono ?_
  rintro e w1 ⟨rfl, hb1⟩
  have HB1 := hide hb1
  clear hb1
  go_wp2_with fail
  refine (C2.out _).mono ?_
  rintro e w2 ⟨rfl, hb2⟩
  have HB2 := hide (below_step HB1.out hb2)
  clear hb2 HB1
  go_wp2_with fail
  refine (mnumber_any _ _ _).mono ?_
  rintro e w3 ⟨rfl, hb3⟩
  have HB3 := hide (below_step HB2.out hb3)
  clear hb3 HB2
  go_wp2
  go_ret
  exact ⟨rfl, HB3.out⟩

theorem optS_le (a : Int) (o : Int × ByteArray) (h : o.2.size ≤ 60) : (optS a o).size ≤ 72 := by
  have h1 := mnum_le4 (halfN (o.1 - a) * 16 + halfN o.2.size) 1
  have h2 := half_le4 (o.1 - a)
  have h3 := half_le4 o.2.size
  simp only [optS, headS, ByteArray.size_append]
  omega
theorem optsS_le : ∀ (l : List (Int × ByteArray)) (a : Int), (∀ o ∈ l, o.2.size ≤ 60) → (optsS a l).size ≤ 72 * l.length := by
  intro l
  induction l with
  | nil => intro a _; exact Nat.zero_le _
  | cons o l ih =>
    intro a h
    have h1 := optS_le a o (h o (by simp))
    have h2 := ih o.1 (fun x hx => h x (by simp [hx]))
    simp only [optsS, ByteArray.size_append, List.length_cons]
    omega
theorem optsE_mem {l : List (Int × ByteArray)} {a : Int} (h : optsE a l = 0) : ∀ o ∈ l, o.2.size ≤ 60 := fun o ho => by
  obtain ⟨i, hi, rfl⟩ := List.mem_iff_getElem.1 ho
  exact (optsE_ok l a h i hi).2.2

theorem lastN_nonneg {l : List (Int × ByteArray)} (h : optsE 0 l = 0) (n : Nat) : 0 ≤ lastN 0 (l.take n) := by
  cases n with
  | zero => exact Int.le_refl _
  | succ n =>
    by_cases hn : n < l.length
    · rw [lastN_snoc 0 l n hn]; exact (optsE_ok l 0 h n hn).1.1
    · rw [List.take_of_length_le (by omega)]
      cases hl : l.length with
      | zero => rw [List.length_eq_zero_iff.1 hl]; exact Int.le_refl _
      | succ m =>
        have e := lastN_snoc 0 l m (by omega)
        rw [List.take_of_length_le (by omega)] at e
        rw [e]; exact (optsE_ok l 0 h m (by omega)).1.1
theorem str_nil_size : (⟨#[]⟩ : ByteArray).size = 0 := rfl

set_option maxHeartbeats 4000000 in
set_option maxRecDepth 100000 in
theorem written_any (m : Mg) (ao : Option Addr) (co : Nat) (w : World) (hl : OptsIn w ao m.opts) (hc : chkM m = 0) :
    Calls Try.prog 15 #[mgV m ao co] w fun e w' => e = .returned (.string (encM m)) ∧ Below w.heap.size w w' := by
  have hok := chkM_ok hc
  generalize hENC : encM m = ENC
  have HENC := hide hENC
  have HL := hide hl
  clear hc hl hENC
  obtain ⟨k, c, i, t, l, p⟩ := m
  simp only [mgV, encM] at *
  obtain ⟨⟨k1, k2⟩, ⟨c1, c2⟩, ⟨i1, i2⟩, ht, hn, hp, hE⟩ := hok
  have HE := hide hE
  clear hE
  have HB0 : Hid (Bd (w.heap.size + 2) (w.heap.size + 1) ⟨#[]⟩ ((w.alloc (.cells #[.int .i64 k, .int .i64 c, .int .i64 i, .string t, .slice ao l.length co, .string p] 24)).alloc (.cells #[.pointer none, .slice none 0 0] 52))) := by
    have := Bd.fresh (w.heap.size + 2) (w.alloc (.cells #[.int .i64 k, .int .i64 c, .int .i64 i, .string t, .slice ao l.length co, .string p] 24))
    simp only [World.size_alloc] at this
    exact this
  have HW0 := hide (((Below.refl w.heap.size w).alloc (Nat.le_refl _) (.cells #[.int .i64 k, .int .i64 c, .int .i64 i, .string t, .slice ao l.length co, .string p] 24)).alloc (by simp) (.cells #[.pointer none, .slice none 0 0] 52))
  have d0 : ∀ o, ((w.alloc (.cells #[.int .i64 k, .int .i64 c, .int .i64 i, .string t, .slice ao l.length co, .string p] 24)).alloc (.cells #[.pointer none, .slice none 0 0] 52)).cell? ⟨w.heap.size, o, none⟩ = (#[.int .i64 k, .int .i64 c, .int .i64 i, .string t, .slice ao l.length co, .string p] : Array Value)[o]? := fun o => by
    rw [World.cell?_alloc_old _ _ _ (by simp)]
    exact Lib.cell_of_heap (Go.heap_alloc_new w _) o
  have hs0 : ((w.alloc (.cells #[.int .i64 k, .int .i64 c, .int .i64 i, .string t, .slice ao l.length co, .string p] 24)).alloc (.cells #[.pointer none, .slice none 0 0] 52)).heap.size = w.heap.size + 2 := by simp
  go_enter Try.func15, Try.ntmps15
  go_upto_region 2 with fail
  revert HB0 HW0 d0 hs0
  generalize (w.alloc (.cells #[.int .i64 k, .int .i64 c, .int .i64 i, .string t, .slice ao l.length co, .string p] 24)).alloc (.cells #[.pointer none, .slice none 0 0] 52) = W0
  intro HB0 HW0 d0 hs0
  have z1 := mnum_le4 (64 + k * 16 + t.size) 1
  have z2 := mnum_le4 c 1
  have z3 := mnum_le4 i 2
  -- the first byte
  go_wp2_with fail
  refine (mnumber_any _ _ _).mono ?_
  rintro e w1 ⟨rfl, hb1⟩
  have HB1 := hide (HB0.out.below hb1)
  have HK1 := hide (KeptN.of_below (N := w.heap.size + 2) (b := w.heap.size + 1) hb1 (by omega))
  have hs1 := hb1.size
  clear hb1 HB0
  go_wp2_with fail
  refine (writeString_any (w.heap.size + 2) (w.heap.size + 1) _ _ _ HB1.out (by rw [str_nil_size]; omega) (by omega)).mono ?_
  rintro e w2 ⟨rfl, hb2, hk2⟩
  have HB2 := hide hb2
  have HK2 := hide (HK1.out.trans hk2)
  have hs2 := hk2.size
  have d2 : ∀ o, w2.cell? ⟨w.heap.size, o, none⟩ = (#[.int .i64 k, .int .i64 c, .int .i64 i, .string t, .slice ao l.length co, .string p] : Array Value)[o]? := fun o => (HK2.out.cell (p := ⟨w.heap.size, o, none⟩) (by show w.heap.size < _; omega) (by show w.heap.size ≠ _; omega)).trans (d0 o)
  clear hb2 hk2 HB1 HK1
  go_wp2_with fail
  refine (mnumber_any _ _ _).mono ?_
  rintro e w3 ⟨rfl, hb3⟩
  have HB3 := hide (HB2.out.below hb3)
  have HK3 := hide (HK2.out.trans (KeptN.of_below (N := w.heap.size + 2) (b := w.heap.size + 1) hb3 (by omega)))
  have hs3 := hb3.size
  clear hb3 HB2
  clear d2 HK2
  go_wp2_with fail
  refine (writeString_any (w.heap.size + 2) (w.heap.size + 1) _ _ _ HB3.out (by simp only [ByteArray.size_append, str_nil_size]; omega) (by omega)).mono ?_
  rintro e w4 ⟨rfl, hb4, hk4⟩
  have HB4 := hide hb4
  have HK4 := hide (HK3.out.trans hk4)
  have hs4 := hk4.size
  have d4 : ∀ o, w4.cell? ⟨w.heap.size, o, none⟩ = (#[.int .i64 k, .int .i64 c, .int .i64 i, .string t, .slice ao l.length co, .string p] : Array Value)[o]? := fun o => (HK4.out.cell (p := ⟨w.heap.size, o, none⟩) (by show w.heap.size < _; omega) (by show w.heap.size ≠ _; omega)).trans (d0 o)
  clear hb4 hk4 HB3 HK3
  go_wp2_with fail
  refine (mnumber_any _ _ _).mono ?_
  rintro e w5 ⟨rfl, hb5⟩
  have HB5 := hide (HB4.out.below hb5)
  have HK5 := hide (HK4.out.trans (KeptN.of_below (N := w.heap.size + 2) (b := w.heap.size + 1) hb5 (by omega)))
  have hs5 := hb5.size
  clear hb5 HB4
  clear d4 HK4
  go_wp2_with fail
  refine (writeString_any (w.heap.size + 2) (w.heap.size + 1) _ _ _ HB5.out (by simp only [ByteArray.size_append, str_nil_size]; omega) (by omega)).mono ?_
  rintro e w6 ⟨rfl, hb6, hk6⟩
  have HB6 := hide hb6
  have HK6 := hide (HK5.out.trans hk6)
  have hs6 := hk6.size
  have d6 : ∀ o, w6.cell? ⟨w.heap.size, o, none⟩ = (#[.int .i64 k, .int .i64 c, .int .i64 i, .string t, .slice ao l.length co, .string p] : Array Value)[o]? := fun o => (HK6.out.cell (p := ⟨w.heap.size, o, none⟩) (by show w.heap.size < _; omega) (by show w.heap.size ≠ _; omega)).trans (d0 o)
  clear hb6 hk6 HB5 HK5
  go_wp2_with fail
  refine (writeString_any (w.heap.size + 2) (w.heap.size + 1) _ _ _ HB6.out (by simp only [ByteArray.size_append, str_nil_size]; omega) (by omega)).mono ?_
  rintro e w7 ⟨rfl, hb7, hk7⟩
  have HB7 := hide hb7
  have HK7 := hide (HK6.out.trans hk7)
  have hs7 := hk7.size
  have d7 : ∀ o, w7.cell? ⟨w.heap.size, o, none⟩ = (#[.int .i64 k, .int .i64 c, .int .i64 i, .string t, .slice ao l.length co, .string p] : Array Value)[o]? := fun o => (HK7.out.cell (p := ⟨w.heap.size, o, none⟩) (by show w.heap.size < _; omega) (by show w.heap.size ≠ _; omega)).trans (d0 o)
  clear hb7 hk7 HB6 HK6
  clear d6
  obtain ⟨X, hX⟩ : ∃ X, X = (⟨#[]⟩ : ByteArray) ++ numS (64 + k * 16 + t.size) 1 ++ numS c 1 ++ numS i 2 ++ t := ⟨_, rfl⟩
  have hXs : X.size ≤ 20 := by rw [hX]; simp only [ByteArray.size_append, str_nil_size]; omega
  have HX : Hid (ENC = X ++ optsS 0 l ++ paylS p) := by show _ = _; rw [← HENC.out, hX, str_nil]
  have HBX : Hid (Bd (w.heap.size + 2) (w.heap.size + 1) X w7) := by rw [hX]; exact HB7
  have hN7 : w.heap.size + 2 ≤ w7.heap.size := by omega
  clear HB7 hX HENC z1 z2 z3 hs1 hs2 hs3 hs4 hs5 hs6 hs7
  go_upto_region 8 with fail
  go_loopw [4, 31] (fun a ix wr => ∃ n : Nat, n ≤ l.length ∧ ix = .int .i64 n ∧ a = .int .i64 (lastN 0 (l.take n)) ∧ Hid (Bd (w.heap.size + 2) (w.heap.size + 1) (X ++ optsS 0 (l.take n)) wr ∧ KeptN (w.heap.size + 2) (w.heap.size + 1) W0 wr)) (fun _ ix _ => l.length - (intOf ix).toNat)
  case atStart => exact ⟨0, by omega, rfl, rfl, by rw [show optsS 0 (l.take 0) = ⟨#[]⟩ from rfl, mb_nil]; exact HBX.out, HK7.out⟩
  case round =>
    obtain ⟨n, hn', rfl, rfl, HR⟩ := hrel
    have hsr := HR.out.2.size
    have hsz : (optsS 0 (l.take n)).size ≤ 864 := by
      have h1 := optsS_le (l.take n) 0 (fun o ho => optsE_mem HE.out o (List.mem_of_mem_take ho))
      have h2 := List.length_take_le n l
      omega
    by_cases hlt : n < l.length
    · obtain ⟨ib, o, rfl, hib, hcell⟩ : ∃ b o, ao = some ⟨b, o, none⟩ ∧ b < w.heap.size ∧ ∀ i (h : i < l.length), w.cell? ⟨b, o + i * 2, none⟩ = some (.int .i64 l[i].1) ∧ w.cell? ⟨b, o + i * 2 + 1, none⟩ = some (.string l[i].2) := by
        rcases HL.out with rfl | h
        · simp at hlt
        · exact h
      have g1 : wr.cell? ⟨ib, o + n * 2, none⟩ = some (.int .i64 l[n].1) := by rw [HR.out.2.cell (p := ⟨ib, _, none⟩) (by show ib < _; omega) (by show ib ≠ _; omega), HW0.out.cell (p := ⟨ib, _, none⟩) hib]; exact (hcell n hlt).1
      have g2 : wr.cell? ⟨ib, o + n * 2 + 1, none⟩ = some (.string l[n].2) := by rw [HR.out.2.cell (p := ⟨ib, _, none⟩) (by show ib < _; omega) (by show ib ≠ _; omega), HW0.out.cell (p := ⟨ib, _, none⟩) hib]; exact (hcell n hlt).2
      have hop := optsE_ok l 0 HE.out n hlt
      have hln := lastN_nonneg HE.out n
      have HSN := hide (optsS_snoc 0 l n hlt)
      have HLN := hide (lastN_snoc 0 l n hlt)
      clear hcell
      revert hop hln HSN HLN g1 g2 HR hsz
      generalize lastN 0 (l.take n) = a
      generalize optsS 0 (l.take n) = Y
      generalize l[n] = x
      obtain ⟨u, v⟩ := x
      simp only
      intro HR hsz g1 g2 hop hln HSN HLN
      obtain ⟨⟨u1, u2⟩, hau, hv⟩ := hop
      have hv' : (v.size : Int) ≤ 60 := by omega
      have HA := hide (HR.out.1.below ((Below.refl _ wr).alloc (Nat.le_refl _) (.cells #[.int .i64 u, .string v] 26)))
      have HKA := hide (HR.out.2.trans (KeptN.of_below ((Below.refl _ wr).alloc (Nat.le_refl _) (.cells #[.int .i64 u, .string v] 26)) (by omega)))
      have HO : Hid ((wr.alloc (.cells #[.int .i64 u, .string v] 26)).heap[wr.heap.size]? = some (.cells #[.int .i64 u, .string v] 26 (0, 0))) := Go.heap_alloc_new wr _
      have hsa : (wr.alloc (.cells #[.int .i64 u, .string v] 26)).heap.size = wr.heap.size + 1 := by simp
      have y1 := mnum_le4 (halfN (u - a) * 16 + halfN v.size) 1
      have y2 := half_le4 (u - a)
      have y3 := half_le4 v.size
      have hhs : (headS (u - a) v.size).size ≤ 12 := by simp only [headS, ByteArray.size_append]; omega
      go_wp2_with fail
      refine (optionHead_any _ _ _ (by omega) (by omega) (by omega) (by omega)).mono ?_
      rintro e x1 ⟨rfl, hb1⟩
      have HA1 := hide (HA.out.below hb1)
      have HKA1 := hide (HKA.out.trans (KeptN.of_below hb1 (by omega)))
      have HO1 : Hid (x1.heap[wr.heap.size]? = some (.cells #[.int .i64 u, .string v] 26 (0, 0))) := by show _ = _; rw [hb1.block _ (by omega)]; exact HO.out
      have hx1 := hb1.size
      clear hb1 HA HKA HO
      go_wp2_with fail
      refine (writeString_any (w.heap.size + 2) (w.heap.size + 1) _ _ _ HA1.out (by simp only [ByteArray.size_append]; omega) (by omega)).mono ?_
      rintro e x2 ⟨rfl, hb2, hk2⟩
      have HO2 : Hid (x2.heap[wr.heap.size]? = some (.cells #[.int .i64 u, .string v] 26 (0, 0))) := hk2.others _ _ HO1.out (by omega) (fun c fz e => by simp only [Obj.cells.injEq] at e; exact absurd e.2.1 (by decide))
      have f0 : x2.cell? ⟨wr.heap.size, 0, none⟩ = some (.int .i64 u) := by rw [Lib.cell_of_heap HO2.out]; rfl
      have f1 : x2.cell? ⟨wr.heap.size, 1, none⟩ = some (.string v) := by rw [Lib.cell_of_heap HO2.out]; rfl
      have HA2 := hide hb2
      have HKA2 := hide (HKA1.out.trans hk2)
      have hx2 := hk2.size
      clear hb2 hk2 HA1 HKA1 HO1
      go_wp2_with fail
      refine (writeString_any (w.heap.size + 2) (w.heap.size + 1) _ _ _ HA2.out (by simp only [ByteArray.size_append]; omega) (by omega)).mono ?_
      rintro e x3 ⟨rfl, hb3, hk3⟩
      have HO3 : Hid (x3.heap[wr.heap.size]? = some (.cells #[.int .i64 u, .string v] 26 (0, 0))) := hk3.others _ _ HO2.out (by omega) (fun c fz e => by simp only [Obj.cells.injEq] at e; exact absurd e.2.1 (by decide))
      have f0' : x3.cell? ⟨wr.heap.size, 0, none⟩ = some (.int .i64 u) := by rw [Lib.cell_of_heap HO3.out]; rfl
      have HN : Hid (Bd (w.heap.size + 2) (w.heap.size + 1) (X ++ optsS 0 (l.take (n + 1))) x3 ∧ KeptN (w.heap.size + 2) (w.heap.size + 1) W0 x3) := ⟨by rw [HSN.out, optS, ← mb_assoc, ← mb_assoc]; exact hb3, HKA2.out.trans hk3⟩
      clear hb3 hk3 HA2 HKA2 HO2 HO3 f0 f1
      go_wp2
      go_round
      case rel => exact ⟨n + 1, by omega, by go_num, by rw [HLN.out], HN⟩
      case measure => simp [intOf]; omega
    · have hke : l.take n = l := List.take_of_length_le (by omega)
      have HF : Hid (Bd (w.heap.size + 2) (w.heap.size + 1) (X ++ optsS 0 l) wr ∧ KeptN (w.heap.size + 2) (w.heap.size + 1) W0 wr) := by have := HR.out; rw [hke] at this; exact this
      rw [hke] at hsz
      have d9 : ∀ o, wr.cell? ⟨w.heap.size, o, none⟩ = (#[.int .i64 k, .int .i64 c, .int .i64 i, .string t, .slice ao l.length co, .string p] : Array Value)[o]? := fun o => (HF.out.2.cell (p := ⟨w.heap.size, o, none⟩) (by show w.heap.size < _; omega) (by show w.heap.size ≠ _; omega)).trans (d0 o)
      clear hke HR
      have hZs : (X ++ optsS 0 l).size ≤ 1000 := by rw [ByteArray.size_append]; omega
      clear hsz
      revert HX HF hZs
      generalize X ++ optsS 0 l = Z
      intro HX HF hZs
      by_cases hp0 : p = ⟨#[]⟩
      · have HXX : Hid (ENC = Z) := by show _ = _; rw [HX.out, paylS, if_pos hp0, mb_nil]
        have hbe : (p.toList == []) = true := txt_yes (l := []) hp0
        clear hp0 HX
        go_wp2_with fail
        refine (string_here _ _ _ _ HF.out.1).mono ?_
        rintro e x1 ⟨rfl, hk1⟩
        have HK := hide (HF.out.2.trans hk1)
        clear hk1
        go_wp2
        go_ret
        exact ⟨by rw [HXX.out]; rfl, HW0.out.trans (HK.out.below (by omega) (by omega))⟩
      · have HXX : Hid (ENC = Z ++ numS 255 1 ++ p) := by show _ = _; rw [HX.out, paylS, if_neg hp0, ← mb_assoc]
        have hbe : (p.toList == []) = false := txt_no (l := []) hp0
        have y1 := mnum_le4 255 1
        clear hp0 HX
        go_wp2_with fail
        refine (mnumber_any _ _ _).mono ?_
        rintro e x1 ⟨rfl, hb1⟩
        have HA1 := hide (HF.out.1.below hb1)
        have HKA1 := hide (HF.out.2.trans (KeptN.of_below hb1 (by omega)))
        have hx1 := hb1.size
        clear hb1 HF
        go_wp2_with fail
        refine (writeString_any (w.heap.size + 2) (w.heap.size + 1) _ _ _ HA1.out (by omega) (by omega)).mono ?_
        rintro e x2 ⟨rfl, hb2, hk2⟩
        have HA2 := hide hb2
        have HKA2 := hide (HKA1.out.trans hk2)
        have hx2 := hk2.size
        have e2 : ∀ o, x2.cell? ⟨w.heap.size, o, none⟩ = (#[.int .i64 k, .int .i64 c, .int .i64 i, .string t, .slice ao l.length co, .string p] : Array Value)[o]? := fun o => (HKA2.out.cell (p := ⟨w.heap.size, o, none⟩) (by show w.heap.size < _; omega) (by show w.heap.size ≠ _; omega)).trans (d0 o)
        clear hb2 hk2 HA1 HKA1 d9
        go_wp2_with fail
        refine (writeString_any (w.heap.size + 2) (w.heap.size + 1) _ _ _ HA2.out (by rw [ByteArray.size_append]; omega) (by omega)).mono ?_
        rintro e x3 ⟨rfl, hb3, hk3⟩
        have HA3 := hide hb3
        have HKA3 := hide (HKA2.out.trans hk3)
        clear hb3 hk3 HA2 HKA2 e2
        go_wp2_with fail
        refine (string_here _ _ _ _ HA3.out).mono ?_
        rintro e x4 ⟨rfl, hk4⟩
        have HK := hide (HKA3.out.trans hk4)
        clear hk4
        go_wp2
        go_ret
        exact ⟨by rw [HXX.out]; rfl, HW0.out.trans (HK.out.below (by omega) (by omega))⟩

theorem written_world {w : World} {m : Mg} {ao : Option Addr} (hl : OptsIn w ao m.opts) {W : World} (h : Below w.heap.size w W) : OptsIn W ao m.opts := hl.below h

set_option maxHeartbeats 2000000 in
theorem mencode_any (m : Mg) (ao : Option Addr) (co : Nat) (w : World) (hl : OptsIn w ao m.opts) :
    Calls Try.prog 7 #[mgV m ao co] w fun e w' => e = .returned (.tuple #[.string (encMS m), .int .i64 (chkM m)]) ∧ Below w.heap.size w w' := by
  have C1 : Hid (∀ W, Below w.heap.size w W → Calls Try.prog 12 #[mgV m ao co] W fun e w' => e = .returned (.int .i64 (chkM m)) ∧ Below W.heap.size W w') := fun W h => mcheck_any m ao co W (hl.below h)
  have C2 : Hid (chkM m = 0 → ∀ W, Below w.heap.size w W → Calls Try.prog 15 #[mgV m ao co] W fun e w' => e = .returned (.string (encMS m)) ∧ Below W.heap.size W w') := fun h W hb => by rw [show encMS m = encM m from if_pos h]; exact written_any m ao co W (hl.below hb) h
  have HN : Hid (chkM m ≠ 0 → encMS m = ⟨#[]⟩) := fun h => if_neg h
  revert C1 C2 HN
  generalize encMS m = S
  generalize chkM m = E
  obtain ⟨k, c, i, t, l, p⟩ := m
  simp only [mgV]
  generalize l.length = n
  clear hl
  intro C1 C2 HN
  have HB := hide ((Below.refl w.heap.size w).alloc (Nat.le_refl _) (.cells #[.int .i64 k, .int .i64 c, .int .i64 i, .string t, .slice ao n co, .string p] 24))
  have d0 : ∀ o, (w.alloc (.cells #[.int .i64 k, .int .i64 c, .int .i64 i, .string t, .slice ao n co, .string p] 24)).cell? ⟨w.heap.size, o, none⟩ = (#[.int .i64 k, .int .i64 c, .int .i64 i, .string t, .slice ao n co, .string p] : Array Value)[o]? := fun o => Lib.cell_of_heap (Go.heap_alloc_new w _) o
  have hs0 : (w.alloc (.cells #[.int .i64 k, .int .i64 c, .int .i64 i, .string t, .slice ao n co, .string p] 24)).heap.size = w.heap.size + 1 := by simp
  go_enter Try.func7, Try.ntmps7
  go_upto_region 1 with fail
  revert HB d0 hs0
  generalize w.alloc (.cells #[.int .i64 k, .int .i64 c, .int .i64 i, .string t, .slice ao n co, .string p] 24) = W0
  intro HB d0 hs0
  go_wp2_with fail
  refine (C1.out _ HB.out).mono ?_
  rintro e w1 ⟨rfl, hb1⟩
  have d1 : ∀ o, w1.cell? ⟨w.heap.size, o, none⟩ = (#[.int .i64 k, .int .i64 c, .int .i64 i, .string t, .slice ao n co, .string p] : Array Value)[o]? := fun o => (hb1.cell (p := ⟨w.heap.size, o, none⟩) (by show w.heap.size < _; omega)).trans (d0 o)
  have HB1 := hide (below_step HB.out hb1)
  clear hb1 d0
  by_cases h0 : E = 0
  · have h0' : (E != 0) = false := by simp [h0]
    have C2' := hide (C2.out h0)
    have H0 := hide h0
    clear C2 h0
    go_wp2_with fail
    refine (C2'.out _ HB1.out).mono ?_
    rintro e w2 ⟨rfl, hb2⟩
    have HB2 := hide (below_step HB1.out hb2)
    clear hb2
    go_wp2
    go_ret2
    exact ⟨by rw [H0.out]; rfl, HB2.out⟩
  · have h0' : (E != 0) = true := by simp [h0]
    have HS := hide (HN.out h0)
    clear C2 h0
    go_wp2
    go_ret2
    exact ⟨by rw [HS.out]; rfl, HB1.out⟩
end Go.Proofs.Ytedlebkpdejhiac
