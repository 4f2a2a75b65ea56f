/-
  packet.reader's packet: what it reads (Pingreq, Pingresp, Disconnect).
-/
import Derived.Test.YtnjdpibgfbbkcabGreatDoorReaderPacket
namespace Go.Proofs.YtnjdpibgfbbkcabGreatDoor
open Go.RowKit Go.PlainAid Go.Deep

set_option maxHeartbeats 8000000 in
theorem rpacket_12 (B br b : Nat) (s : ByteArray) (n : Nat) (bad : Bool) (w : World) (hb : b < 256) (hB1 : B ≤ br) (hB : B ≤ w.heap.size) (hR : Rd br s n bad w) (hs : s.size ≤ 281474976710656) (_hn : n ≤ s.size) (hk : (kPk b).kind = 12) :
    Calls Tryz.prog 42 #[.pointer (some ⟨br, 0, none⟩), .int .i64 b] w fun e w' => ∃ aa ca ac cc, e = .returned (pkV (packR s n bad b).1 aa ca ac cc) ∧ PkInB B w' (packR s n bad b).1 aa ac ∧ Rd br s (packR s n bad b).2.1 (packR s n bad b).2.2 w' ∧ Below B w w' := by
  have hs' : s.size ≤ maxLen := by unfold maxLen; omega
  obtain ⟨R, hRR⟩ : ∃ R, R = packR s n bad b := ⟨_, rfl⟩
  rw [← hRR]
  obtain ⟨BR, hBR⟩ : ∃ BR, BR = bodyR s n (bad || !kindB (kPk b).kind) b := ⟨_, rfl⟩
  have hQ := bodyR_form s n (bad || !kindB (kPk b).kind) b hb
  rw [← hBR] at hQ
  have hRES : R = (BR.1, BR.2.1, BR.2.2 || !(firstN BR.1 == (b : Int))) := by rw [hRR, packR, ← hBR]
  have HBR := hide hBR
  have HRES0 := hide hRES
  have HQ0 := hide hQ
  have HR := hide hR
  have hbr := hR.lt
  have HKK := hide hk
  have hbw : Below w.heap.size w ((w.alloc (.cells #[.int .i64 0, .bool false, .bool false, .bool false, .bool false, .int .i64 0, .int .i64 0, .int .i64 0, .int .i64 0, .string ⟨#[]⟩, .string ⟨#[]⟩, .string ⟨#[]⟩, .slice none 0 0, .slice none 0 0] 35)).alloc (.cells #[.int .i64 (kPk b).kind, .bool false, .bool false, .bool false, .bool false, .int .i64 0, .int .i64 0, .int .i64 0, .int .i64 0, .string ⟨#[]⟩, .string ⟨#[]⟩, .string ⟨#[]⟩, .slice none 0 0, .slice none 0 0] 35)) := ((Below.refl _ _).alloc (Nat.le_refl _) _).alloc (by simp) _
  have hh2 := heap2 w (.cells #[.int .i64 0, .bool false, .bool false, .bool false, .bool false, .int .i64 0, .int .i64 0, .int .i64 0, .int .i64 0, .string ⟨#[]⟩, .string ⟨#[]⟩, .string ⟨#[]⟩, .slice none 0 0, .slice none 0 0] 35) (.cells #[.int .i64 (kPk b).kind, .bool false, .bool false, .bool false, .bool false, .int .i64 0, .int .i64 0, .int .i64 0, .int .i64 0, .string ⟨#[]⟩, .string ⟨#[]⟩, .string ⟨#[]⟩, .slice none 0 0, .slice none 0 0] 35)
  have HBW := hide hbw
  have HH2 := hide hh2
  have hkd : (b : Int) / 16 = (kPk b).kind := rfl
  clear hbw hh2 hR hRR hBR hRES hQ hk
  go_enter Tryz.func42, Tryz.ntmps42
  go_upto_region 2 with fail
  try rw [hkd]
  have hsW : ((w.alloc (.cells #[.int .i64 0, .bool false, .bool false, .bool false, .bool false, .int .i64 0, .int .i64 0, .int .i64 0, .int .i64 0, .string ⟨#[]⟩, .string ⟨#[]⟩, .string ⟨#[]⟩, .slice none 0 0, .slice none 0 0] 35)).alloc (.cells #[.int .i64 (kPk b).kind, .bool false, .bool false, .bool false, .bool false, .int .i64 0, .int .i64 0, .int .i64 0, .int .i64 0, .string ⟨#[]⟩, .string ⟨#[]⟩, .string ⟨#[]⟩, .slice none 0 0, .slice none 0 0] 35)).heap.size = w.heap.size + 2 := by simp
  revert HBW HH2 hsW
  generalize ((w.alloc (.cells #[.int .i64 0, .bool false, .bool false, .bool false, .bool false, .int .i64 0, .int .i64 0, .int .i64 0, .int .i64 0, .string ⟨#[]⟩, .string ⟨#[]⟩, .string ⟨#[]⟩, .slice none 0 0, .slice none 0 0] 35)).alloc (.cells #[.int .i64 (kPk b).kind, .bool false, .bool false, .bool false, .bool false, .int .i64 0, .int .i64 0, .int .i64 0, .int .i64 0, .string ⟨#[]⟩, .string ⟨#[]⟩, .string ⟨#[]⟩, .slice none 0 0, .slice none 0 0] 35)) = W0
  intro HBW HH2 hsW
  have HP0 : Hid (PAt (w.heap.size + 1) (kPk b) (.slice none 0 0) (.slice none 0 0) W0) := HH2.out.2
  have HZ0 : Hid (PAt w.heap.size zeroPk (.slice none 0 0) (.slice none 0 0) W0) := HH2.out.1
  have HRW := hide (HR.out.below HBW.out)
  have k0 : W0.cell? ⟨w.heap.size + 1, 0, none⟩ = some (.int .i64 (kPk b).kind) := HP0.out.cell 0
  go_wp2_with (go_at_call 33; refine (isKind_any _ _).mono ?_; rintro e W0 ⟨rfl, rfl⟩)
  refine (must_any br s n bad (kindB (kPk b).kind) _ HRW.out).mono ?_
  rintro e w1 ⟨rfl, hr1, hk1⟩
  have HR1 := hide hr1
  have HP1 := hide (HP0.out.kx hk1 (by omega))
  have HZ1 := hide (HZ0.out.kx hk1 (by omega))
  have HB1 : Hid (Below B w w1) := (HBW.out.mono hB).trans (hk1.below (by omega) hB1 hB1)
  have hs1 := hk1.size
  have k1 : w1.cell? ⟨w.heap.size + 1, 0, none⟩ = some (.int .i64 (kPk b).kind) := HP1.out.cell 0
  clear hr1 hk1 HR HRW HP0 HZ0 HBW HH2 k0
  have hk := HKK.out
  have HE : Hid (BR = (kPk b, n, bad || !kindB (kPk b).kind)) := HBR.out.trans ((if_neg (by omega)).trans ((if_neg (by omega)).trans ((if_neg (by omega)).trans (if_pos (by omega)))))
  have e1 : ((kPk b).kind == 1) = false := by simp; omega
  have e2 : ((kPk b).kind == 2) = false := by simp; omega
  have e3 : ((kPk b).kind == 3) = false := by simp; omega
  have e12 : ((kPk b).kind == 12) = true := by simp [hk]
  clear hk
  go_upto_region 15 with fail
  clear k1
  obtain ⟨q, hq⟩ : ∃ q, q = BR.1 := ⟨_, rfl⟩
  have HRES : Hid (R = (q, BR.2.1, BR.2.2 || !(firstN q == (b : Int)))) := by rw [hq]; exact HRES0.out
  have HQ : Hid ((0 ≤ q.kind ∧ q.kind ≤ 15) ∧ (0 ≤ q.qos ∧ q.qos ≤ 1)) := by rw [hq]; exact HQ0.out
  have HRq : Hid (Rd br s BR.2.1 BR.2.2 w1) := by rw [HE.out]; exact HR1.out
  have HZq : Hid (PAt w.heap.size zeroPk (.slice none 0 0) (.slice none 0 0) w1) := HZ1
  obtain ⟨va, vc, HPq, HOA, HOC⟩ : ∃ va vc, Hid (PAt (w.heap.size + 1) q va vc w1) ∧ Hid (w1.ownsRow B 56 2 va q.asks.length (askCells q.asks)) ∧ Hid (w1.ownsRow B 3 1 vc q.codes.length (intCells q.codes)) := by
    refine ⟨.slice none 0 0, .slice none 0 0, ?_, ?_, ?_⟩
    · rw [hq, HE.out]; exact HP1.out
    · rw [hq, HE.out]; exact World.ownsRow_nil _ _ _ _
    · rw [hq, HE.out]; exact World.ownsRow_nil _ _ _ _
  have HBq : Hid (Below B w w1) := HB1
  clear hq HE HRES0 HQ0 HR1 HP1 HZ1 HB1 HBR
  have hkq := HQ.out.1
  have hqq := HQ.out.2
  obtain ⟨aa, ca, rfl⟩ := own_form HOA.out
  obtain ⟨ac, cc, rfl⟩ := own_form HOC.out
  have x1 := HPq.out.cell
  have hbq := HPq.out.lt
  have hbr2 := HRq.out.lt
  have CF : Hid (∀ V, Calls Tryz.prog 30 #[pkV q aa ca ac cc] V fun e w' => e = .returned (.int .i64 (firstN q)) ∧ Below V.heap.size V w') := fun V => first_any q aa ac ca cc V hkq hqq
  simp only [pkV] at CF
  clear hkq hqq
  go_wp2_with fail
  refine (CF.out _).mono ?_
  rintro e w3 ⟨rfl, hb3⟩
  have HR3 := hide (HRq.out.below hb3)
  have HS3 := hide hb3
  have hs3 := hb3.size
  clear hb3
  go_wp2_with fail
  refine (must_any br s _ _ (firstN q == (b : Int)) _ HR3.out).mono ?_
  rintro e w4 ⟨rfl, hr4, hk4⟩
  have HRf := hide hr4
  have HPf : Hid (PAt (w.heap.size + 1) q (.slice aa q.asks.length ca) (.slice ac q.codes.length cc) w4) := by
    have h0 : PAt (w.heap.size + 1) q (.slice aa q.asks.length ca) (.slice ac q.codes.length cc) w3 := by have := HPq.out; unfold PAt at *; rw [HS3.out.block _ hbq]; exact this
    exact h0.kx hk4 (by omega)
  have HZf : Hid (PAt w.heap.size zeroPk (.slice none 0 0) (.slice none 0 0) w4) := by
    have h0 : PAt w.heap.size zeroPk (.slice none 0 0) (.slice none 0 0) w3 := by have := HZq.out; unfold PAt at *; rw [HS3.out.block _ (by omega)]; exact this
    exact h0.kx hk4 (by omega)
  have HAf : Hid (w4.ownsRow B 56 2 (.slice aa q.asks.length ca) q.asks.length (askCells q.asks)) := own_kept HOA.out fun g hg => by
    have hg1 := (own_lt HOA.out g hg).2
    have hg2 : g ≠ br := fun e => own_ne HOA.out HRq.out (by decide) (by rw [hg, e])
    rw [hk4.block g (by omega) hg2 hg2, HS3.out.block g hg1]
  have HCf : Hid (w4.ownsRow B 3 1 (.slice ac q.codes.length cc) q.codes.length (intCells q.codes)) := own_kept HOC.out fun g hg => by
    have hg1 := (own_lt HOC.out g hg).2
    have hg2 : g ≠ br := fun e => own_ne HOC.out HRq.out (by decide) (by rw [hg, e])
    rw [hk4.block g (by omega) hg2 hg2, HS3.out.block g hg1]
  have HBf : Hid (Below B w w4) := (HBq.out.trans (HS3.out.mono (by omega))).trans (hk4.below (by omega) hB1 hB1)
  have y1 := HPf.out.cell
  have z1 := HZf.out.cell
  have z2 := HZf.out.frozen
  clear hr4 hk4 HRq HPq HZq HOA HOC HBq x1 HR3 HS3
  go_wp2
  refine bodyPost_ret (v := pkV q aa ca ac cc) (by simp [results, Tryz.results42, go_sem, pkV, z1, World.cell?_setCell_same]) rfl ?_
  refine rp_final HRES.out HAf.out HCf.out HRf.out HZf.out HBf.out hB (by omega) (by have := HBf.out.size; omega) ?_
  repeat (first | refine Kx.trans ?_ (Kx.set _ _ _ _ _) | exact Kx.refl _ _ _)

set_option maxHeartbeats 8000000 in
theorem rpacket_13 (B br b : Nat) (s : ByteArray) (n : Nat) (bad : Bool) (w : World) (hb : b < 256) (hB1 : B ≤ br) (hB : B ≤ w.heap.size) (hR : Rd br s n bad w) (hs : s.size ≤ 281474976710656) (_hn : n ≤ s.size) (hk : (kPk b).kind = 13) :
    Calls Tryz.prog 42 #[.pointer (some ⟨br, 0, none⟩), .int .i64 b] w fun e w' => ∃ aa ca ac cc, e = .returned (pkV (packR s n bad b).1 aa ca ac cc) ∧ PkInB B w' (packR s n bad b).1 aa ac ∧ Rd br s (packR s n bad b).2.1 (packR s n bad b).2.2 w' ∧ Below B w w' := by
  have hs' : s.size ≤ maxLen := by unfold maxLen; omega
  obtain ⟨R, hRR⟩ : ∃ R, R = packR s n bad b := ⟨_, rfl⟩
  rw [← hRR]
  obtain ⟨BR, hBR⟩ : ∃ BR, BR = bodyR s n (bad || !kindB (kPk b).kind) b := ⟨_, rfl⟩
  have hQ := bodyR_form s n (bad || !kindB (kPk b).kind) b hb
  rw [← hBR] at hQ
  have hRES : R = (BR.1, BR.2.1, BR.2.2 || !(firstN BR.1 == (b : Int))) := by rw [hRR, packR, ← hBR]
  have HBR := hide hBR
  have HRES0 := hide hRES
  have HQ0 := hide hQ
  have HR := hide hR
  have hbr := hR.lt
  have HKK := hide hk
  have hbw : Below w.heap.size w ((w.alloc (.cells #[.int .i64 0, .bool false, .bool false, .bool false, .bool false, .int .i64 0, .int .i64 0, .int .i64 0, .int .i64 0, .string ⟨#[]⟩, .string ⟨#[]⟩, .string ⟨#[]⟩, .slice none 0 0, .slice none 0 0] 35)).alloc (.cells #[.int .i64 (kPk b).kind, .bool false, .bool false, .bool false, .bool false, .int .i64 0, .int .i64 0, .int .i64 0, .int .i64 0, .string ⟨#[]⟩, .string ⟨#[]⟩, .string ⟨#[]⟩, .slice none 0 0, .slice none 0 0] 35)) := ((Below.refl _ _).alloc (Nat.le_refl _) _).alloc (by simp) _
  have hh2 := heap2 w (.cells #[.int .i64 0, .bool false, .bool false, .bool false, .bool false, .int .i64 0, .int .i64 0, .int .i64 0, .int .i64 0, .string ⟨#[]⟩, .string ⟨#[]⟩, .string ⟨#[]⟩, .slice none 0 0, .slice none 0 0] 35) (.cells #[.int .i64 (kPk b).kind, .bool false, .bool false, .bool false, .bool false, .int .i64 0, .int .i64 0, .int .i64 0, .int .i64 0, .string ⟨#[]⟩, .string ⟨#[]⟩, .string ⟨#[]⟩, .slice none 0 0, .slice none 0 0] 35)
  have HBW := hide hbw
  have HH2 := hide hh2
  have hkd : (b : Int) / 16 = (kPk b).kind := rfl
  clear hbw hh2 hR hRR hBR hRES hQ hk
  go_enter Tryz.func42, Tryz.ntmps42
  go_upto_region 2 with fail
  try rw [hkd]
  have hsW : ((w.alloc (.cells #[.int .i64 0, .bool false, .bool false, .bool false, .bool false, .int .i64 0, .int .i64 0, .int .i64 0, .int .i64 0, .string ⟨#[]⟩, .string ⟨#[]⟩, .string ⟨#[]⟩, .slice none 0 0, .slice none 0 0] 35)).alloc (.cells #[.int .i64 (kPk b).kind, .bool false, .bool false, .bool false, .bool false, .int .i64 0, .int .i64 0, .int .i64 0, .int .i64 0, .string ⟨#[]⟩, .string ⟨#[]⟩, .string ⟨#[]⟩, .slice none 0 0, .slice none 0 0] 35)).heap.size = w.heap.size + 2 := by simp
  revert HBW HH2 hsW
  generalize ((w.alloc (.cells #[.int .i64 0, .bool false, .bool false, .bool false, .bool false, .int .i64 0, .int .i64 0, .int .i64 0, .int .i64 0, .string ⟨#[]⟩, .string ⟨#[]⟩, .string ⟨#[]⟩, .slice none 0 0, .slice none 0 0] 35)).alloc (.cells #[.int .i64 (kPk b).kind, .bool false, .bool false, .bool false, .bool false, .int .i64 0, .int .i64 0, .int .i64 0, .int .i64 0, .string ⟨#[]⟩, .string ⟨#[]⟩, .string ⟨#[]⟩, .slice none 0 0, .slice none 0 0] 35)) = W0
  intro HBW HH2 hsW
  have HP0 : Hid (PAt (w.heap.size + 1) (kPk b) (.slice none 0 0) (.slice none 0 0) W0) := HH2.out.2
  have HZ0 : Hid (PAt w.heap.size zeroPk (.slice none 0 0) (.slice none 0 0) W0) := HH2.out.1
  have HRW := hide (HR.out.below HBW.out)
  have k0 : W0.cell? ⟨w.heap.size + 1, 0, none⟩ = some (.int .i64 (kPk b).kind) := HP0.out.cell 0
  go_wp2_with (go_at_call 33; refine (isKind_any _ _).mono ?_; rintro e W0 ⟨rfl, rfl⟩)
  refine (must_any br s n bad (kindB (kPk b).kind) _ HRW.out).mono ?_
  rintro e w1 ⟨rfl, hr1, hk1⟩
  have HR1 := hide hr1
  have HP1 := hide (HP0.out.kx hk1 (by omega))
  have HZ1 := hide (HZ0.out.kx hk1 (by omega))
  have HB1 : Hid (Below B w w1) := (HBW.out.mono hB).trans (hk1.below (by omega) hB1 hB1)
  have hs1 := hk1.size
  have k1 : w1.cell? ⟨w.heap.size + 1, 0, none⟩ = some (.int .i64 (kPk b).kind) := HP1.out.cell 0
  clear hr1 hk1 HR HRW HP0 HZ0 HBW HH2 k0
  have hk := HKK.out
  have HE : Hid (BR = (kPk b, n, bad || !kindB (kPk b).kind)) := HBR.out.trans ((if_neg (by omega)).trans ((if_neg (by omega)).trans ((if_neg (by omega)).trans (if_pos (by omega)))))
  have e1 : ((kPk b).kind == 1) = false := by simp; omega
  have e2 : ((kPk b).kind == 2) = false := by simp; omega
  have e3 : ((kPk b).kind == 3) = false := by simp; omega
  have e12 : ((kPk b).kind == 12) = false := by simp; omega
  have e13 : ((kPk b).kind == 13) = true := by simp [hk]
  clear hk
  go_upto_region 15 with fail
  clear k1
  obtain ⟨q, hq⟩ : ∃ q, q = BR.1 := ⟨_, rfl⟩
  have HRES : Hid (R = (q, BR.2.1, BR.2.2 || !(firstN q == (b : Int)))) := by rw [hq]; exact HRES0.out
  have HQ : Hid ((0 ≤ q.kind ∧ q.kind ≤ 15) ∧ (0 ≤ q.qos ∧ q.qos ≤ 1)) := by rw [hq]; exact HQ0.out
  have HRq : Hid (Rd br s BR.2.1 BR.2.2 w1) := by rw [HE.out]; exact HR1.out
  have HZq : Hid (PAt w.heap.size zeroPk (.slice none 0 0) (.slice none 0 0) w1) := HZ1
  obtain ⟨va, vc, HPq, HOA, HOC⟩ : ∃ va vc, Hid (PAt (w.heap.size + 1) q va vc w1) ∧ Hid (w1.ownsRow B 56 2 va q.asks.length (askCells q.asks)) ∧ Hid (w1.ownsRow B 3 1 vc q.codes.length (intCells q.codes)) := by
    refine ⟨.slice none 0 0, .slice none 0 0, ?_, ?_, ?_⟩
    · rw [hq, HE.out]; exact HP1.out
    · rw [hq, HE.out]; exact World.ownsRow_nil _ _ _ _
    · rw [hq, HE.out]; exact World.ownsRow_nil _ _ _ _
  have HBq : Hid (Below B w w1) := HB1
  clear hq HE HRES0 HQ0 HR1 HP1 HZ1 HB1 HBR
  have hkq := HQ.out.1
  have hqq := HQ.out.2
  obtain ⟨aa, ca, rfl⟩ := own_form HOA.out
  obtain ⟨ac, cc, rfl⟩ := own_form HOC.out
  have x1 := HPq.out.cell
  have hbq := HPq.out.lt
  have hbr2 := HRq.out.lt
  have CF : Hid (∀ V, Calls Tryz.prog 30 #[pkV q aa ca ac cc] V fun e w' => e = .returned (.int .i64 (firstN q)) ∧ Below V.heap.size V w') := fun V => first_any q aa ac ca cc V hkq hqq
  simp only [pkV] at CF
  clear hkq hqq
  go_wp2_with fail
  refine (CF.out _).mono ?_
  rintro e w3 ⟨rfl, hb3⟩
  have HR3 := hide (HRq.out.below hb3)
  have HS3 := hide hb3
  have hs3 := hb3.size
  clear hb3
  go_wp2_with fail
  refine (must_any br s _ _ (firstN q == (b : Int)) _ HR3.out).mono ?_
  rintro e w4 ⟨rfl, hr4, hk4⟩
  have HRf := hide hr4
  have HPf : Hid (PAt (w.heap.size + 1) q (.slice aa q.asks.length ca) (.slice ac q.codes.length cc) w4) := by
    have h0 : PAt (w.heap.size + 1) q (.slice aa q.asks.length ca) (.slice ac q.codes.length cc) w3 := by have := HPq.out; unfold PAt at *; rw [HS3.out.block _ hbq]; exact this
    exact h0.kx hk4 (by omega)
  have HZf : Hid (PAt w.heap.size zeroPk (.slice none 0 0) (.slice none 0 0) w4) := by
    have h0 : PAt w.heap.size zeroPk (.slice none 0 0) (.slice none 0 0) w3 := by have := HZq.out; unfold PAt at *; rw [HS3.out.block _ (by omega)]; exact this
    exact h0.kx hk4 (by omega)
  have HAf : Hid (w4.ownsRow B 56 2 (.slice aa q.asks.length ca) q.asks.length (askCells q.asks)) := own_kept HOA.out fun g hg => by
    have hg1 := (own_lt HOA.out g hg).2
    have hg2 : g ≠ br := fun e => own_ne HOA.out HRq.out (by decide) (by rw [hg, e])
    rw [hk4.block g (by omega) hg2 hg2, HS3.out.block g hg1]
  have HCf : Hid (w4.ownsRow B 3 1 (.slice ac q.codes.length cc) q.codes.length (intCells q.codes)) := own_kept HOC.out fun g hg => by
    have hg1 := (own_lt HOC.out g hg).2
    have hg2 : g ≠ br := fun e => own_ne HOC.out HRq.out (by decide) (by rw [hg, e])
    rw [hk4.block g (by omega) hg2 hg2, HS3.out.block g hg1]
  have HBf : Hid (Below B w w4) := (HBq.out.trans (HS3.out.mono (by omega))).trans (hk4.below (by omega) hB1 hB1)
  have y1 := HPf.out.cell
  have z1 := HZf.out.cell
  have z2 := HZf.out.frozen
  clear hr4 hk4 HRq HPq HZq HOA HOC HBq x1 HR3 HS3
  go_wp2
  refine bodyPost_ret (v := pkV q aa ca ac cc) (by simp [results, Tryz.results42, go_sem, pkV, z1, World.cell?_setCell_same]) rfl ?_
  refine rp_final HRES.out HAf.out HCf.out HRf.out HZf.out HBf.out hB (by omega) (by have := HBf.out.size; omega) ?_
  repeat (first | refine Kx.trans ?_ (Kx.set _ _ _ _ _) | exact Kx.refl _ _ _)

set_option maxHeartbeats 8000000 in
theorem rpacket_14 (B br b : Nat) (s : ByteArray) (n : Nat) (bad : Bool) (w : World) (hb : b < 256) (hB1 : B ≤ br) (hB : B ≤ w.heap.size) (hR : Rd br s n bad w) (hs : s.size ≤ 281474976710656) (_hn : n ≤ s.size) (hk : (kPk b).kind = 14) :
    Calls Tryz.prog 42 #[.pointer (some ⟨br, 0, none⟩), .int .i64 b] w fun e w' => ∃ aa ca ac cc, e = .returned (pkV (packR s n bad b).1 aa ca ac cc) ∧ PkInB B w' (packR s n bad b).1 aa ac ∧ Rd br s (packR s n bad b).2.1 (packR s n bad b).2.2 w' ∧ Below B w w' := by
  have hs' : s.size ≤ maxLen := by unfold maxLen; omega
  obtain ⟨R, hRR⟩ : ∃ R, R = packR s n bad b := ⟨_, rfl⟩
  rw [← hRR]
  obtain ⟨BR, hBR⟩ : ∃ BR, BR = bodyR s n (bad || !kindB (kPk b).kind) b := ⟨_, rfl⟩
  have hQ := bodyR_form s n (bad || !kindB (kPk b).kind) b hb
  rw [← hBR] at hQ
  have hRES : R = (BR.1, BR.2.1, BR.2.2 || !(firstN BR.1 == (b : Int))) := by rw [hRR, packR, ← hBR]
  have HBR := hide hBR
  have HRES0 := hide hRES
  have HQ0 := hide hQ
  have HR := hide hR
  have hbr := hR.lt
  have HKK := hide hk
  have hbw : Below w.heap.size w ((w.alloc (.cells #[.int .i64 0, .bool false, .bool false, .bool false, .bool false, .int .i64 0, .int .i64 0, .int .i64 0, .int .i64 0, .string ⟨#[]⟩, .string ⟨#[]⟩, .string ⟨#[]⟩, .slice none 0 0, .slice none 0 0] 35)).alloc (.cells #[.int .i64 (kPk b).kind, .bool false, .bool false, .bool false, .bool false, .int .i64 0, .int .i64 0, .int .i64 0, .int .i64 0, .string ⟨#[]⟩, .string ⟨#[]⟩, .string ⟨#[]⟩, .slice none 0 0, .slice none 0 0] 35)) := ((Below.refl _ _).alloc (Nat.le_refl _) _).alloc (by simp) _
  have hh2 := heap2 w (.cells #[.int .i64 0, .bool false, .bool false, .bool false, .bool false, .int .i64 0, .int .i64 0, .int .i64 0, .int .i64 0, .string ⟨#[]⟩, .string ⟨#[]⟩, .string ⟨#[]⟩, .slice none 0 0, .slice none 0 0] 35) (.cells #[.int .i64 (kPk b).kind, .bool false, .bool false, .bool false, .bool false, .int .i64 0, .int .i64 0, .int .i64 0, .int .i64 0, .string ⟨#[]⟩, .string ⟨#[]⟩, .string ⟨#[]⟩, .slice none 0 0, .slice none 0 0] 35)
  have HBW := hide hbw
  have HH2 := hide hh2
  have hkd : (b : Int) / 16 = (kPk b).kind := rfl
  clear hbw hh2 hR hRR hBR hRES hQ hk
  go_enter Tryz.func42, Tryz.ntmps42
  go_upto_region 2 with fail
  try rw [hkd]
  have hsW : ((w.alloc (.cells #[.int .i64 0, .bool false, .bool false, .bool false, .bool false, .int .i64 0, .int .i64 0, .int .i64 0, .int .i64 0, .string ⟨#[]⟩, .string ⟨#[]⟩, .string ⟨#[]⟩, .slice none 0 0, .slice none 0 0] 35)).alloc (.cells #[.int .i64 (kPk b).kind, .bool false, .bool false, .bool false, .bool false, .int .i64 0, .int .i64 0, .int .i64 0, .int .i64 0, .string ⟨#[]⟩, .string ⟨#[]⟩, .string ⟨#[]⟩, .slice none 0 0, .slice none 0 0] 35)).heap.size = w.heap.size + 2 := by simp
  revert HBW HH2 hsW
  generalize ((w.alloc (.cells #[.int .i64 0, .bool false, .bool false, .bool false, .bool false, .int .i64 0, .int .i64 0, .int .i64 0, .int .i64 0, .string ⟨#[]⟩, .string ⟨#[]⟩, .string ⟨#[]⟩, .slice none 0 0, .slice none 0 0] 35)).alloc (.cells #[.int .i64 (kPk b).kind, .bool false, .bool false, .bool false, .bool false, .int .i64 0, .int .i64 0, .int .i64 0, .int .i64 0, .string ⟨#[]⟩, .string ⟨#[]⟩, .string ⟨#[]⟩, .slice none 0 0, .slice none 0 0] 35)) = W0
  intro HBW HH2 hsW
  have HP0 : Hid (PAt (w.heap.size + 1) (kPk b) (.slice none 0 0) (.slice none 0 0) W0) := HH2.out.2
  have HZ0 : Hid (PAt w.heap.size zeroPk (.slice none 0 0) (.slice none 0 0) W0) := HH2.out.1
  have HRW := hide (HR.out.below HBW.out)
  have k0 : W0.cell? ⟨w.heap.size + 1, 0, none⟩ = some (.int .i64 (kPk b).kind) := HP0.out.cell 0
  go_wp2_with (go_at_call 33; refine (isKind_any _ _).mono ?_; rintro e W0 ⟨rfl, rfl⟩)
  refine (must_any br s n bad (kindB (kPk b).kind) _ HRW.out).mono ?_
  rintro e w1 ⟨rfl, hr1, hk1⟩
  have HR1 := hide hr1
  have HP1 := hide (HP0.out.kx hk1 (by omega))
  have HZ1 := hide (HZ0.out.kx hk1 (by omega))
  have HB1 : Hid (Below B w w1) := (HBW.out.mono hB).trans (hk1.below (by omega) hB1 hB1)
  have hs1 := hk1.size
  have k1 : w1.cell? ⟨w.heap.size + 1, 0, none⟩ = some (.int .i64 (kPk b).kind) := HP1.out.cell 0
  clear hr1 hk1 HR HRW HP0 HZ0 HBW HH2 k0
  have hk := HKK.out
  have HE : Hid (BR = (kPk b, n, bad || !kindB (kPk b).kind)) := HBR.out.trans ((if_neg (by omega)).trans ((if_neg (by omega)).trans ((if_neg (by omega)).trans (if_pos (by omega)))))
  have e1 : ((kPk b).kind == 1) = false := by simp; omega
  have e2 : ((kPk b).kind == 2) = false := by simp; omega
  have e3 : ((kPk b).kind == 3) = false := by simp; omega
  have e12 : ((kPk b).kind == 12) = false := by simp; omega
  have e13 : ((kPk b).kind == 13) = false := by simp; omega
  have e14 : ((kPk b).kind == 14) = true := by simp [hk]
  clear hk
  go_upto_region 15 with fail
  clear k1
  obtain ⟨q, hq⟩ : ∃ q, q = BR.1 := ⟨_, rfl⟩
  have HRES : Hid (R = (q, BR.2.1, BR.2.2 || !(firstN q == (b : Int)))) := by rw [hq]; exact HRES0.out
  have HQ : Hid ((0 ≤ q.kind ∧ q.kind ≤ 15) ∧ (0 ≤ q.qos ∧ q.qos ≤ 1)) := by rw [hq]; exact HQ0.out
  have HRq : Hid (Rd br s BR.2.1 BR.2.2 w1) := by rw [HE.out]; exact HR1.out
  have HZq : Hid (PAt w.heap.size zeroPk (.slice none 0 0) (.slice none 0 0) w1) := HZ1
  obtain ⟨va, vc, HPq, HOA, HOC⟩ : ∃ va vc, Hid (PAt (w.heap.size + 1) q va vc w1) ∧ Hid (w1.ownsRow B 56 2 va q.asks.length (askCells q.asks)) ∧ Hid (w1.ownsRow B 3 1 vc q.codes.length (intCells q.codes)) := by
    refine ⟨.slice none 0 0, .slice none 0 0, ?_, ?_, ?_⟩
    · rw [hq, HE.out]; exact HP1.out
    · rw [hq, HE.out]; exact World.ownsRow_nil _ _ _ _
    · rw [hq, HE.out]; exact World.ownsRow_nil _ _ _ _
  have HBq : Hid (Below B w w1) := HB1
  clear hq HE HRES0 HQ0 HR1 HP1 HZ1 HB1 HBR
  have hkq := HQ.out.1
  have hqq := HQ.out.2
  obtain ⟨aa, ca, rfl⟩ := own_form HOA.out
  obtain ⟨ac, cc, rfl⟩ := own_form HOC.out
  have x1 := HPq.out.cell
  have hbq := HPq.out.lt
  have hbr2 := HRq.out.lt
  have CF : Hid (∀ V, Calls Tryz.prog 30 #[pkV q aa ca ac cc] V fun e w' => e = .returned (.int .i64 (firstN q)) ∧ Below V.heap.size V w') := fun V => first_any q aa ac ca cc V hkq hqq
  simp only [pkV] at CF
  clear hkq hqq
  go_wp2_with fail
  refine (CF.out _).mono ?_
  rintro e w3 ⟨rfl, hb3⟩
  have HR3 := hide (HRq.out.below hb3)
  have HS3 := hide hb3
  have hs3 := hb3.size
  clear hb3
  go_wp2_with fail
  refine (must_any br s _ _ (firstN q == (b : Int)) _ HR3.out).mono ?_
  rintro e w4 ⟨rfl, hr4, hk4⟩
  have HRf := hide hr4
  have HPf : Hid (PAt (w.heap.size + 1) q (.slice aa q.asks.length ca) (.slice ac q.codes.length cc) w4) := by
    have h0 : PAt (w.heap.size + 1) q (.slice aa q.asks.length ca) (.slice ac q.codes.length cc) w3 := by have := HPq.out; unfold PAt at *; rw [HS3.out.block _ hbq]; exact this
    exact h0.kx hk4 (by omega)
  have HZf : Hid (PAt w.heap.size zeroPk (.slice none 0 0) (.slice none 0 0) w4) := by
    have h0 : PAt w.heap.size zeroPk (.slice none 0 0) (.slice none 0 0) w3 := by have := HZq.out; unfold PAt at *; rw [HS3.out.block _ (by omega)]; exact this
    exact h0.kx hk4 (by omega)
  have HAf : Hid (w4.ownsRow B 56 2 (.slice aa q.asks.length ca) q.asks.length (askCells q.asks)) := own_kept HOA.out fun g hg => by
    have hg1 := (own_lt HOA.out g hg).2
    have hg2 : g ≠ br := fun e => own_ne HOA.out HRq.out (by decide) (by rw [hg, e])
    rw [hk4.block g (by omega) hg2 hg2, HS3.out.block g hg1]
  have HCf : Hid (w4.ownsRow B 3 1 (.slice ac q.codes.length cc) q.codes.length (intCells q.codes)) := own_kept HOC.out fun g hg => by
    have hg1 := (own_lt HOC.out g hg).2
    have hg2 : g ≠ br := fun e => own_ne HOC.out HRq.out (by decide) (by rw [hg, e])
    rw [hk4.block g (by omega) hg2 hg2, HS3.out.block g hg1]
  have HBf : Hid (Below B w w4) := (HBq.out.trans (HS3.out.mono (by omega))).trans (hk4.below (by omega) hB1 hB1)
  have y1 := HPf.out.cell
  have z1 := HZf.out.cell
  have z2 := HZf.out.frozen
  clear hr4 hk4 HRq HPq HZq HOA HOC HBq x1 HR3 HS3
  go_wp2
  refine bodyPost_ret (v := pkV q aa ca ac cc) (by simp [results, Tryz.results42, go_sem, pkV, z1, World.cell?_setCell_same]) rfl ?_
  refine rp_final HRES.out HAf.out HCf.out HRf.out HZf.out HBf.out hB (by omega) (by have := HBf.out.size; omega) ?_
  repeat (first | refine Kx.trans ?_ (Kx.set _ _ _ _ _) | exact Kx.refl _ _ _)

end Go.Proofs.YtnjdpibgfbbkcabGreatDoor
/-
  packet.reader's packet: what it reads (those with an Id, and all others).
-/
namespace Go.Proofs.YtnjdpibgfbbkcabGreatDoor
open Go.RowKit Go.PlainAid Go.Deep

set_option maxHeartbeats 8000000 in
theorem rpacket_id (B br b : Nat) (s : ByteArray) (n : Nat) (bad : Bool) (w : World) (hb : b < 256) (hB1 : B ≤ br) (hB : B ≤ w.heap.size) (hR : Rd br s n bad w) (hs : s.size ≤ 281474976710656) (hn : n ≤ s.size) (hk : ¬ ((kPk b).kind = 1 ∨ (kPk b).kind = 2 ∨ (kPk b).kind = 3 ∨ (kPk b).kind = 12 ∨ (kPk b).kind = 13 ∨ (kPk b).kind = 14)) :
    Calls Tryz.prog 42 #[.pointer (some ⟨br, 0, none⟩), .int .i64 b] w fun e w' => ∃ aa ca ac cc, e = .returned (pkV (packR s n bad b).1 aa ca ac cc) ∧ PkInB B w' (packR s n bad b).1 aa ac ∧ Rd br s (packR s n bad b).2.1 (packR s n bad b).2.2 w' ∧ Below B w w' := by
  have hs' : s.size ≤ maxLen := by unfold maxLen; omega
  obtain ⟨R, hRR⟩ : ∃ R, R = packR s n bad b := ⟨_, rfl⟩
  rw [← hRR]
  obtain ⟨BR, hBR⟩ : ∃ BR, BR = bodyR s n (bad || !kindB (kPk b).kind) b := ⟨_, rfl⟩
  have hQ := bodyR_form s n (bad || !kindB (kPk b).kind) b hb
  rw [← hBR] at hQ
  have hRES : R = (BR.1, BR.2.1, BR.2.2 || !(firstN BR.1 == (b : Int))) := by rw [hRR, packR, ← hBR]
  have HBR := hide hBR
  have HRES0 := hide hRES
  have HQ0 := hide hQ
  have HR := hide hR
  have hbr := hR.lt
  have HKK := hide hk
  have hbw : Below w.heap.size w ((w.alloc (.cells #[.int .i64 0, .bool false, .bool false, .bool false, .bool false, .int .i64 0, .int .i64 0, .int .i64 0, .int .i64 0, .string ⟨#[]⟩, .string ⟨#[]⟩, .string ⟨#[]⟩, .slice none 0 0, .slice none 0 0] 35)).alloc (.cells #[.int .i64 (kPk b).kind, .bool false, .bool false, .bool false, .bool false, .int .i64 0, .int .i64 0, .int .i64 0, .int .i64 0, .string ⟨#[]⟩, .string ⟨#[]⟩, .string ⟨#[]⟩, .slice none 0 0, .slice none 0 0] 35)) := ((Below.refl _ _).alloc (Nat.le_refl _) _).alloc (by simp) _
  have hh2 := heap2 w (.cells #[.int .i64 0, .bool false, .bool false, .bool false, .bool false, .int .i64 0, .int .i64 0, .int .i64 0, .int .i64 0, .string ⟨#[]⟩, .string ⟨#[]⟩, .string ⟨#[]⟩, .slice none 0 0, .slice none 0 0] 35) (.cells #[.int .i64 (kPk b).kind, .bool false, .bool false, .bool false, .bool false, .int .i64 0, .int .i64 0, .int .i64 0, .int .i64 0, .string ⟨#[]⟩, .string ⟨#[]⟩, .string ⟨#[]⟩, .slice none 0 0, .slice none 0 0] 35)
  have HBW := hide hbw
  have HH2 := hide hh2
  have hkd : (b : Int) / 16 = (kPk b).kind := rfl
  clear hbw hh2 hR hRR hBR hRES hQ hk
  go_enter Tryz.func42, Tryz.ntmps42
  go_upto_region 2 with fail
  try rw [hkd]
  have hsW : ((w.alloc (.cells #[.int .i64 0, .bool false, .bool false, .bool false, .bool false, .int .i64 0, .int .i64 0, .int .i64 0, .int .i64 0, .string ⟨#[]⟩, .string ⟨#[]⟩, .string ⟨#[]⟩, .slice none 0 0, .slice none 0 0] 35)).alloc (.cells #[.int .i64 (kPk b).kind, .bool false, .bool false, .bool false, .bool false, .int .i64 0, .int .i64 0, .int .i64 0, .int .i64 0, .string ⟨#[]⟩, .string ⟨#[]⟩, .string ⟨#[]⟩, .slice none 0 0, .slice none 0 0] 35)).heap.size = w.heap.size + 2 := by simp
  revert HBW HH2 hsW
  generalize ((w.alloc (.cells #[.int .i64 0, .bool false, .bool false, .bool false, .bool false, .int .i64 0, .int .i64 0, .int .i64 0, .int .i64 0, .string ⟨#[]⟩, .string ⟨#[]⟩, .string ⟨#[]⟩, .slice none 0 0, .slice none 0 0] 35)).alloc (.cells #[.int .i64 (kPk b).kind, .bool false, .bool false, .bool false, .bool false, .int .i64 0, .int .i64 0, .int .i64 0, .int .i64 0, .string ⟨#[]⟩, .string ⟨#[]⟩, .string ⟨#[]⟩, .slice none 0 0, .slice none 0 0] 35)) = W0
  intro HBW HH2 hsW
  have HP0 : Hid (PAt (w.heap.size + 1) (kPk b) (.slice none 0 0) (.slice none 0 0) W0) := HH2.out.2
  have HZ0 : Hid (PAt w.heap.size zeroPk (.slice none 0 0) (.slice none 0 0) W0) := HH2.out.1
  have HRW := hide (HR.out.below HBW.out)
  have k0 : W0.cell? ⟨w.heap.size + 1, 0, none⟩ = some (.int .i64 (kPk b).kind) := HP0.out.cell 0
  go_wp2_with (go_at_call 33; refine (isKind_any _ _).mono ?_; rintro e W0 ⟨rfl, rfl⟩)
  refine (must_any br s n bad (kindB (kPk b).kind) _ HRW.out).mono ?_
  rintro e w1 ⟨rfl, hr1, hk1⟩
  have HR1 := hide hr1
  have HP1 := hide (HP0.out.kx hk1 (by omega))
  have HZ1 := hide (HZ0.out.kx hk1 (by omega))
  have HB1 : Hid (Below B w w1) := (HBW.out.mono hB).trans (hk1.below (by omega) hB1 hB1)
  have hs1 := hk1.size
  have k1 : w1.cell? ⟨w.heap.size + 1, 0, none⟩ = some (.int .i64 (kPk b).kind) := HP1.out.cell 0
  clear hr1 hk1 HR HRW HP0 HZ0 HBW HH2 k0
  have hk := HKK.out
  have HE : Hid (BR = widR s n (bad || !kindB (kPk b).kind) (kPk b)) := HBR.out.trans ((if_neg (by omega)).trans ((if_neg (by omega)).trans ((if_neg (by omega)).trans (if_neg (by omega)))))
  have e1 : ((kPk b).kind == 1) = false := by simp; omega
  have e2 : ((kPk b).kind == 2) = false := by simp; omega
  have e3 : ((kPk b).kind == 3) = false := by simp; omega
  have e12 : ((kPk b).kind == 12) = false := by simp; omega
  have e13 : ((kPk b).kind == 13) = false := by simp; omega
  have e14 : ((kPk b).kind == 14) = false := by simp; omega
  clear hk
  go_wp2_with fail
  refine (rwithId_any B br (w.heap.size + 1) s n _ (kPk b) _ hB1 (by omega) (by omega) (by omega) HR1.out hs' hn HP1.out rfl rfl).mono ?_
  rintro e w2 ⟨rfl, va0, vc0, g1, g2, g3, g4, g5, g6⟩
  obtain ⟨q, hq⟩ : ∃ q, q = BR.1 := ⟨_, rfl⟩
  have HRES : Hid (R = (q, BR.2.1, BR.2.2 || !(firstN q == (b : Int)))) := by rw [hq]; exact HRES0.out
  have HQ : Hid ((0 ≤ q.kind ∧ q.kind ≤ 15) ∧ (0 ≤ q.qos ∧ q.qos ≤ 1)) := by rw [hq]; exact HQ0.out
  have HRq : Hid (Rd br s BR.2.1 BR.2.2 w2) := by rw [HE.out]; exact g1
  have HZq : Hid (PAt w.heap.size zeroPk (.slice none 0 0) (.slice none 0 0) w2) := g6 w.heap.size _ HZ1.out (by omega) (by omega) (fun c fz e => by simp only [Obj.cells.injEq] at e; exact absurd e.2.1 (by decide)) (fun c fz e => by simp only [Obj.cells.injEq] at e; exact absurd e.2.1 (by decide))
  obtain ⟨va, vc, HPq, HOA, HOC⟩ : ∃ va vc, Hid (PAt (w.heap.size + 1) q va vc w2) ∧ Hid (w2.ownsRow B 56 2 va q.asks.length (askCells q.asks)) ∧ Hid (w2.ownsRow B 3 1 vc q.codes.length (intCells q.codes)) := by
    refine ⟨va0, vc0, ?_, ?_, ?_⟩
    · rw [hq, HE.out]; exact g2
    · rw [hq, HE.out]; exact g3
    · rw [hq, HE.out]; exact g4
  have HBq : Hid (Below B w w2) := HB1.out.trans g5
  have hs2 := g5.size
  clear g1 g2 g3 g4 g5 g6 hq HE HRES0 HQ0 HR1 HP1 HZ1 HB1 HBR
  have hkq := HQ.out.1
  have hqq := HQ.out.2
  obtain ⟨aa, ca, rfl⟩ := own_form HOA.out
  obtain ⟨ac, cc, rfl⟩ := own_form HOC.out
  have x1 := HPq.out.cell
  have hbq := HPq.out.lt
  have hbr2 := HRq.out.lt
  have CF : Hid (∀ V, Calls Tryz.prog 30 #[pkV q aa ca ac cc] V fun e w' => e = .returned (.int .i64 (firstN q)) ∧ Below V.heap.size V w') := fun V => first_any q aa ac ca cc V hkq hqq
  simp only [pkV] at CF
  clear hkq hqq
  go_wp2_with fail
  refine (CF.out _).mono ?_
  rintro e w3 ⟨rfl, hb3⟩
  have HR3 := hide (HRq.out.below hb3)
  have HS3 := hide hb3
  have hs3 := hb3.size
  clear hb3
  go_wp2_with fail
  refine (must_any br s _ _ (firstN q == (b : Int)) _ HR3.out).mono ?_
  rintro e w4 ⟨rfl, hr4, hk4⟩
  have HRf := hide hr4
  have HPf : Hid (PAt (w.heap.size + 1) q (.slice aa q.asks.length ca) (.slice ac q.codes.length cc) w4) := by
    have h0 : PAt (w.heap.size + 1) q (.slice aa q.asks.length ca) (.slice ac q.codes.length cc) w3 := by have := HPq.out; unfold PAt at *; rw [HS3.out.block _ hbq]; exact this
    exact h0.kx hk4 (by omega)
  have HZf : Hid (PAt w.heap.size zeroPk (.slice none 0 0) (.slice none 0 0) w4) := by
    have h0 : PAt w.heap.size zeroPk (.slice none 0 0) (.slice none 0 0) w3 := by have := HZq.out; unfold PAt at *; rw [HS3.out.block _ (by omega)]; exact this
    exact h0.kx hk4 (by omega)
  have HAf : Hid (w4.ownsRow B 56 2 (.slice aa q.asks.length ca) q.asks.length (askCells q.asks)) := own_kept HOA.out fun g hg => by
    have hg1 := (own_lt HOA.out g hg).2
    have hg2 : g ≠ br := fun e => own_ne HOA.out HRq.out (by decide) (by rw [hg, e])
    rw [hk4.block g (by omega) hg2 hg2, HS3.out.block g hg1]
  have HCf : Hid (w4.ownsRow B 3 1 (.slice ac q.codes.length cc) q.codes.length (intCells q.codes)) := own_kept HOC.out fun g hg => by
    have hg1 := (own_lt HOC.out g hg).2
    have hg2 : g ≠ br := fun e => own_ne HOC.out HRq.out (by decide) (by rw [hg, e])
    rw [hk4.block g (by omega) hg2 hg2, HS3.out.block g hg1]
  have HBf : Hid (Below B w w4) := (HBq.out.trans (HS3.out.mono (by omega))).trans (hk4.below (by omega) hB1 hB1)
  have y1 := HPf.out.cell
  have z1 := HZf.out.cell
  have z2 := HZf.out.frozen
  clear hr4 hk4 HRq HPq HZq HOA HOC HBq x1 HR3 HS3
  go_wp2
  refine bodyPost_ret (v := pkV q aa ca ac cc) (by simp [results, Tryz.results42, go_sem, pkV, z1, World.cell?_setCell_same]) rfl ?_
  refine rp_final HRES.out HAf.out HCf.out HRf.out HZf.out HBf.out hB (by omega) (by have := HBf.out.size; omega) ?_
  repeat (first | refine Kx.trans ?_ (Kx.set _ _ _ _ _) | exact Kx.refl _ _ _)

end Go.Proofs.YtnjdpibgfbbkcabGreatDoor
