/-
  packet.writer's publish: what it writes.
-/
import Derived.Test.YtgmjdelgocbcaabDoorWriterNumbers
import Derived.Deep.RegionWith
namespace Go.Proofs.YtgmjdelgocbcaabDoor
open Go.RowKit Go.PlainAid

/-- what stands behind a Publish's first byte and length -/
def publishS (p : Pk) : ByteArray := txtS p.topic ++ (if p.qos = 1 then numsS 2 [p.id] else ⟨#[]⟩) ++ p.payload

set_option maxHeartbeats 2000000 in
theorem wpublish_any (N b : Nat) (p : Pk) (aa ac : Option Addr) (ca cc : Nat) (w : World) (h : Bd N b ⟨#[]⟩ w) (hN : N ≤ w.heap.size) (hpl : p.payload.size ≤ 200) :
    Calls Tryd.prog 50 #[.pointer (some ⟨b, 0, none⟩), pkV p aa ca ac cc] w fun e w' => e = .returned (.tuple #[]) ∧ Bd N b (publishS p) w' ∧ KeptN N b w w' := by
  have HBD := hide h
  have hb := h.lt
  clear h
  generalize hP : publishS p = P
  obtain ⟨k, d, r, c, s, q, i, kp, cd, cl, tp, pl, l, cs⟩ := p
  simp only [publishS] at hP
  simp only [pkV]
  simp only at hpl
  have z1 := txtS_size tp
  have z3 := numsS_size 2 [i]
  simp only [List.length_cons, List.length_nil] at z3
  by_cases hq : q = 1
  · rw [if_pos hq] at hP
    have HP := hide hP.symm
    have hq1 : (q == 1) = true := by simp [hq]
    clear hP hq
    go_enter Tryd.func50, Tryd.ntmps50
    go_wp2_with fail
    refine (wtext_any N b _ tp _ (HBD.out.below ((Below.refl _ _).alloc (Nat.le_refl _) _)) (by simp; omega) (by decide)).mono ?_
    rintro e w1 ⟨rfl, hbd1, hk1⟩
    rw [str_nil] at hbd1
    have hc1 := box_cells hk1 hb (by decide)
    have HD1 := hide hbd1
    have HK1 := hide hk1
    have hs1 := hk1.size
    simp only [World.size_alloc] at hs1
    clear hbd1 hk1
    go_wp2_with fail
    refine (numbers_any N b _ 2 [i] _ 1 _ (HD1.out.below ((Below.refl _ _).alloc (Nat.le_refl _) _)) (by simp; omega) (by omega) (by simp) (ints_one N b _ _ _ rfl (by omega))).mono ?_
    rintro e w3 ⟨rfl, hbd3, hk3⟩
    have hk13 := HK1.out.trans ((KeptN.of_below ((Below.refl _ _).alloc (Nat.le_refl _) _) (by omega)).trans hk3)
    have hc3 := box_cells hk13 hb (by decide)
    have HD3 := hide hbd3
    have HK3 := hide hk13
    have hs3 := hk13.size
    simp only [World.size_alloc] at hs3
    clear hbd3 hk3 hk13 HK1 hc1
    go_wp2_with fail
    go_region_with (go_at_call 24; refine (writeString_any N b _ pl _ (HD3.out.below (Below.drew (Below.refl _ _))) (by simp only [ByteArray.size_append]; omega) (by first | omega | (simp; omega))).mono ?_; rintro e w4 ⟨rfl, hbd4, hk4⟩)
    all_goals
      have HF := hide (And.intro hbd4 (((KeptN.of_below ((Below.refl _ w).alloc (Nat.le_refl _) _) hN).trans HK3.out).trans ((KeptN.of_below (Below.drew (Below.refl _ _)) (by omega)).trans hk4)))
      clear hbd4 hk4
      go_wp2
      go_end0
      exact ⟨rfl, by rw [HP.out]; exact HF.out.1, HF.out.2⟩
  · rw [if_neg hq, ba_append_nil] at hP
    have HP := hide hP.symm
    have hq1 : (q == 1) = false := by simp [hq]
    clear hP hq
    go_enter Tryd.func50, Tryd.ntmps50
    go_wp2_with fail
    refine (wtext_any N b _ tp _ (HBD.out.below ((Below.refl _ _).alloc (Nat.le_refl _) _)) (by simp; omega) (by decide)).mono ?_
    rintro e w1 ⟨rfl, hbd1, hk1⟩
    rw [str_nil] at hbd1
    have hc1 := box_cells hk1 hb (by decide)
    have HD1 := hide hbd1
    have HK1 := hide hk1
    have hs1 := hk1.size
    simp only [World.size_alloc] at hs1
    clear hbd1 hk1
    go_wp2_with fail
    go_region_with (go_at_call 24; refine (writeString_any N b _ pl _ (HD1.out.below (Below.drew (Below.refl _ _))) (by omega) (by first | omega | (simp; omega))).mono ?_; rintro e w4 ⟨rfl, hbd4, hk4⟩)
    all_goals
      have HF := hide (And.intro hbd4 (((KeptN.of_below ((Below.refl _ w).alloc (Nat.le_refl _) _) hN).trans HK1.out).trans ((KeptN.of_below (Below.drew (Below.refl _ _)) (by omega)).trans hk4)))
      clear hbd4 hk4
      go_wp2
      go_end0
      exact ⟨rfl, by rw [HP.out]; exact HF.out.1, HF.out.2⟩
end Go.Proofs.YtgmjdelgocbcaabDoor
/-
  packet.writer's withId: what it writes.
-/
namespace Go.Proofs.YtgmjdelgocbcaabDoor
open Go.RowKit Go.PlainAid

/-- an ask -/
def askS (kind : Int) (a : ByteArray × Int) : ByteArray := txtS a.1 ++ (if kind = 8 then numsS 1 [a.2] else ⟨#[]⟩)
def asksS (kind : Int) : List (ByteArray × Int) → ByteArray
  | [] => ⟨#[]⟩
  | a :: l => askS kind a ++ asksS kind l
/-- what stands behind first byte and length of those with an Id, lists and all -/
def withIdS (p : Pk) : ByteArray := numsS 2 [p.id] ++ asksS p.kind p.asks ++ numsS 1 p.codes

theorem asksS_append (k : Int) (a b : List (ByteArray × Int)) : asksS k (a ++ b) = asksS k a ++ asksS k b := by
  induction a with
  | nil => exact (str_nil _).symm
  | cons x l ih => simp only [List.cons_append, asksS, ih, ba_assoc]
theorem asksS_snoc (k : Int) (l : List (ByteArray × Int)) (n : Nat) (h : n < l.length) : asksS k (l.take (n + 1)) = asksS k (l.take n) ++ askS k l[n] := by
  rw [List.take_succ_eq_append_getElem h, asksS_append]
  simp only [asksS, ba_append_nil]
theorem askS_size (k : Int) (a : ByteArray × Int) : (askS k a).size ≤ 65541 := by
  have h1 := txtS_size a.1
  have h2 := numsS_size 1 [a.2]
  simp only [List.length_cons, List.length_nil] at h2
  unfold askS
  rw [ByteArray.size_append]
  split
  · omega
  · show _ + 0 ≤ _; omega
theorem asksS_size (k : Int) (l : List (ByteArray × Int)) : (asksS k l).size ≤ 65541 * l.length := by
  induction l with
  | nil => exact Nat.zero_le _
  | cons x l ih => have := askS_size k x; simp only [asksS, ByteArray.size_append, List.length_cons]; omega

set_option maxHeartbeats 2000000 in
theorem wwithId_any (N b : Nat) (p : Pk) (aa ac : Option Addr) (ca cc : Nat) (w : World) (h : Bd N b ⟨#[]⟩ w) (hN : N ≤ w.heap.size) (hla : p.asks.length ≤ 5) (hlc : p.codes.length ≤ 5)
    (hA : p.asks = [] ∨ ∃ ib o, aa = some ⟨ib, o, none⟩ ∧ Safe N b w ib ∧ ib < w.heap.size ∧ ∀ i (h : i < p.asks.length), w.cell? ⟨ib, o + i * 2, none⟩ = some (.string p.asks[i].1) ∧ w.cell? ⟨ib, o + i * 2 + 1, none⟩ = some (.int .i64 p.asks[i].2))
    (hI : p.codes = [] ∨ ∃ ib o, ac = some ⟨ib, o, none⟩ ∧ Safe N b w ib ∧ ib < w.heap.size ∧ ∀ i (h : i < p.codes.length), w.cell? ⟨ib, o + i, none⟩ = some (.int .i64 p.codes[i])) :
    Calls Tryd.prog 51 #[.pointer (some ⟨b, 0, none⟩), pkV p aa ca ac cc] w fun e w' => e = .returned (.tuple #[]) ∧ Bd N b (withIdS p) w' ∧ KeptN N b w w' := by
  have HBD := hide h
  have hb := h.lt
  clear h
  generalize hP : withIdS p = P
  obtain ⟨k, d, r, c, s, q, i, kp, cd, cl, tp, pl, l, cs⟩ := p
  simp only [withIdS] at hP
  have HP := hide hP.symm
  have HA := hide hA
  have HI := hide hI
  clear hP hA hI
  simp only [pkV]
  simp only at hla hlc HA HI
  have z3 := numsS_size 2 [i]
  simp only [List.length_cons, List.length_nil] at z3
  go_enter Tryd.func51, Tryd.ntmps51
  go_wp2_with fail
  refine (numbers_any N b _ 2 [i] _ 1 _ ((HBD.out.below ((Below.refl _ _).alloc (Nat.le_refl _) _)).below ((Below.refl _ _).alloc (Nat.le_refl _) _)) (by simp; omega) (by decide) (by simp) (ints_one N b _ _ _ (by simp) (by simp; omega))).mono ?_
  rintro e w1 ⟨rfl, hbd1, hk1⟩
  rw [str_nil] at hbd1
  have hkk1 := (KeptN.of_below ((Below.refl _ _).alloc (Nat.le_refl _) _) (by simp; omega)).trans hk1
  have hc1 := box_cells hkk1 hb (by decide)
  have HD1 := hide hbd1
  have HK1 := hide hkk1
  have hs1 := hkk1.size
  simp only [World.size_alloc] at hs1
  clear hbd1 hk1 hkk1
  go_wp2_with fail
  go_loopw [14] (fun x wr => ∃ n : Nat, n ≤ l.length ∧ x = .int .i64 n ∧ Hid (Bd N b (numsS 2 [i] ++ asksS k (l.take n)) wr ∧ KeptN N b w1 wr)) (fun x _ => l.length - (intOf x).toNat)
  case atStart => exact ⟨0, by omega, rfl, by rw [show asksS k (l.take 0) = ⟨#[]⟩ from rfl, ba_append_nil]; exact HD1.out, KeptN.refl _ _ _⟩
  case round =>
    obtain ⟨n, hn, rfl, HR⟩ := hrel
    have hws := HR.out.2.size
    have hcr := box_cells (HK1.out.trans HR.out.2) hb (by decide)
    have hsz : (asksS k (l.take n)).size ≤ 327705 := by have := asksS_size k (l.take n); have := List.length_take_le n l; omega
    by_cases hlt : n < l.length
    · obtain ⟨ib, o, rfl, hsafe, hibl, hcell⟩ : ∃ ib o, aa = some ⟨ib, o, none⟩ ∧ Safe N b w ib ∧ ib < w.heap.size ∧ ∀ i (h : i < l.length), w.cell? ⟨ib, o + i * 2, none⟩ = some (.string l[i].1) ∧ w.cell? ⟨ib, o + i * 2 + 1, none⟩ = some (.int .i64 l[i].2) := by
        rcases HA.out with h0 | h0
        · subst h0; simp at hlt
        · exact h0
      have hkw : KeptN N b w wr := ((KeptN.of_below ((Below.refl _ _).alloc (Nat.le_refl _) _) hN).trans HK1.out).trans HR.out.2
      have hx1 : wr.cell? ⟨ib, o + n * 2, none⟩ = some (.string l[n].1) := by rw [Safe.cell (p := ⟨ib, _, none⟩) hsafe hkw]; exact (hcell n hlt).1
      have hx2 : wr.cell? ⟨ib, o + n * 2 + 1, none⟩ = some (.int .i64 l[n].2) := by rw [Safe.cell (p := ⟨ib, _, none⟩) hsafe hkw]; exact (hcell n hlt).2
      have HN := hide (asksS_snoc k l n hlt)
      clear hcell hsafe hkw hc1
      generalize l[n] = x at *
      obtain ⟨f, y⟩ := x
      simp only at hx1 hx2
      have hf := txtS_size f
      go_wp2_with fail
      refine (wtext_any N b _ f _ (HR.out.1.below ((Below.refl _ _).alloc (Nat.le_refl _) _)) (by simp; omega) (by simp only [ByteArray.size_append]; omega)).mono ?_
      rintro e w2 ⟨rfl, hbd2, hk2⟩
      have ha2 := box_cells hk2 (by omega) (by decide)
      have hk02 := (KeptN.of_below ((Below.refl _ wr).alloc (Nat.le_refl _) _) (by omega)).trans hk2
      have hc2 := box_cells ((HK1.out.trans HR.out.2).trans hk02) hb (by decide)
      have HD2 := hide hbd2
      have HK2 := hide (HR.out.2.trans hk02)
      have hs2 := hk02.size
      clear hbd2 hk2 hk02 HR hcr
      by_cases h8 : k = 8
      · have h8' : (k == 8) = true := by simp [h8]
        have HS : Hid (askS k (f, y) = txtS f ++ numsS 1 [y]) := by show _ = _; unfold askS; rw [if_pos h8]
        clear h8
        go_wp2_with fail
        refine (numbers_any N b _ 1 [y] _ 1 _ (HD2.out.below ((Below.refl _ _).alloc (Nat.le_refl _) _)) (by simp; omega) (by simp only [ByteArray.size_append]; omega) (by simp) (ints_one N b _ _ _ rfl (by omega))).mono ?_
        rintro e w3 ⟨rfl, hbd3, hk3⟩
        have HF : Hid (Bd N b (numsS 2 [i] ++ asksS k (l.take (n + 1))) w3 ∧ KeptN N b w1 w3) :=
          ⟨by rw [HN.out, HS.out, ← ba_assoc, ← ba_assoc]; exact hbd3, HK2.out.trans ((KeptN.of_below ((Below.refl _ _).alloc (Nat.le_refl _) _) (by omega)).trans hk3)⟩
        clear hbd3 hk3
        go_wp2
        go_round
        case rel => exact ⟨n + 1, by omega, by go_num, HF⟩
        case measure => simp [intOf]; omega
      · have h8' : (k == 8) = false := by simp [h8]
        have HS : Hid (askS k (f, y) = txtS f) := by show _ = _; unfold askS; rw [if_neg h8, ba_append_nil]
        have HF : Hid (Bd N b (numsS 2 [i] ++ asksS k (l.take (n + 1))) w2 ∧ KeptN N b w1 w2) := ⟨by rw [HN.out, HS.out, ← ba_assoc]; exact HD2.out, HK2.out⟩
        clear h8
        go_wp2
        go_round
        case rel => exact ⟨n + 1, by omega, by go_num, HF⟩
        case measure => simp [intOf]; omega
    · have hke : l.take n = l := List.take_of_length_le (by omega)
      rw [hke] at hsz
      have HF : Hid (Bd N b (numsS 2 [i] ++ asksS k l) wr ∧ KeptN N b w1 wr) := by have := HR.out; rw [hke] at this; exact this
      have hkw : KeptN N b w wr := ((KeptN.of_below ((Below.refl _ _).alloc (Nat.le_refl _) _) hN).trans HK1.out).trans HR.out.2
      have HW := hide hkw
      have HI2 : Hid (cs = [] ∨ ∃ ib o, ac = some ⟨ib, o, none⟩ ∧ Safe N b wr ib ∧ ∀ i (h : i < cs.length), wr.cell? ⟨ib, o + i, none⟩ = some (.int .i64 cs[i])) := by
        rcases HI.out with h0 | ⟨ib, o, h0, h1, h2, h3⟩
        · exact .inl h0
        · exact .inr ⟨ib, o, h0, h1.kept hkw, fun i hi => by rw [Safe.cell (p := ⟨ib, _, none⟩) h1 hkw]; exact h3 i hi⟩
      clear hke HR hkw hc1
      go_wp2_with fail
      refine (numbers_any N b _ 1 cs ac cc _ HF.out.1 (by omega) (by simp only [ByteArray.size_append]; omega) hlc HI2.out).mono ?_
      rintro e w3 ⟨rfl, hbd3, hk3⟩
      have HFF := hide (And.intro hbd3 (HW.out.trans hk3))
      clear hbd3 hk3
      go_wp2
      go_end0
      exact ⟨rfl, by rw [HP.out]; exact HFF.out.1, HFF.out.2⟩
end Go.Proofs.YtgmjdelgocbcaabDoor
