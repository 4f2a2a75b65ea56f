/-
  The walk of dragomanlaw.PacketTells: it answers true (what it reads being of no great size).
-/
import Derived.Test.YtnjdpibgfbbkcabDoorPacketBegun
import Derived.Test.YtnjdpibgfbbkcabDoorPacketForthAll
import Derived.Test.YtnjdpibgfbbkcabDoorRefPkOf
namespace Go.Proofs.YtnjdpibgfbbkcabDoor
open Go.RowKit Go.PlainAid

theorem fit_right {p : Pk} (h : chkP p = 0) : FitP p := by
  have hk := chkP_kind h
  have hz := bareB_ok hk.2.1
  refine ⟨hk.1, hk.2.1, fun k => ?_, fun k => ?_, fun k => ?_, fun k => ?_, fun a ha => ?_, fun a ha => ?_⟩
  · have := connectE_ok (hk.2.2.1 k); omega
  · have := connackE_ok (hk.2.2.2.1 k); omega
  · have := publishE_ok (hk.2.2.2.2.1 k)
    exact ⟨Nat.le_trans (chk_ok this.1).1 (by decide), this.2.1, fun q => by have := this.2.2.1 q; omega, fun q => (this.2.2.2 q).2⟩
  · have := (withIdE_ok (hk.2.2.2.2.2 k)).1; omega
  · by_cases k8 : p.kind = 8 ∨ p.kind = 10
    · have hE := withIdE_ok (hk.2.2.2.2.2 (by omega))
      have := askE_ok ((asksE_ok (hE.2.1 k8)).2 a ha)
      exact ⟨by omega, by omega, fun hne => this.2.2 (by omega)⟩
    · have : p.asks = [] := by rw [← wn_asks p k8]; exact hz.2.2.2.2.2.2.2.2.2.2.2.1
      rw [this] at ha; cases ha
  · by_cases k9 : p.kind = 9
    · have hE := withIdE_ok (hk.2.2.2.2.2 (by omega))
      have := codeE_ok ((codesE_ok (hE.2.2 k9)).2 a ha)
      omega
    · have : p.codes = [] := by rw [← wn_codes p k9]; exact hz.2.2.2.2.2.2.2.2.2.2.2.2
      rw [this] at ha; cases ha
theorem PAt.after {b : Nat} {p : Pk} {va vc : Value} {w w' : World} (h : PAt b p va vc w) (hb : Below w.heap.size w w') : PAt b p va vc w' := by
  have := h.lt; unfold PAt at *; rw [hb.block b this]; exact h

set_option maxHeartbeats 8000000 in
set_option maxRecDepth 100000 in
theorem packetTells_walk (p : Pk) (aa ac : Option Addr) (ca cc : Nat) (s : ByteArray) (w : World) (hm : Max w) (h1 : PkIn w p aa ac) (hs : s.size ≤ 1048576) (ht : p.topic.size ≤ 1048576) (hta : ∀ a ∈ p.asks, a.1.size ≤ 1048576) :
    Calls Tryd.prog 4 #[pkV p aa ca ac cc, .string s] w fun e w' => e = .returned (.bool true) ∧ Below w.heap.size w w' := by
  have CP : Hid (∀ W, Max W → PkIn W p aa ac → Calls Tryd.prog 8 #[pkV p aa ca ac cc] W fun e w' => e = .returned (.tuple #[.string (encS p), .int .i64 (chkP p)]) ∧ Below W.heap.size W w') := fun W a b => encode_any p aa ac ca cc W a b
  have CR : Hid (∀ W, PkIn W p aa ac → Calls Tryd.prog 12 #[pkV p aa ca ac cc] W fun e w' => e = .returned (.int .i64 (chkP p)) ∧ Below W.heap.size W w') := fun W b => rckP_any p aa ac ca cc W b ht hta
  have CK : Hid (∀ W, Max W → PkIn W p aa ac → Calls Tryd.prog 15 #[pkV p aa ca ac cc] W fun e w' => e = .returned (.int .i64 (chkP p)) ∧ Below W.heap.size W w') := fun W a b => check_any p aa ac ca cc W a b
  have CB : Hid (chkP p = 0 → ∀ W, PkIn W p aa ac → Calls Tryd.prog 13 #[pkV p aa ca ac cc] W fun e w' => e = .returned (.string (encS p)) ∧ Below W.heap.size W w') := fun h W b => by
    have hok := chkP_ok h
    have hA := asksS_size p.kind p.asks
    have hC := numsS_size 1 p.codes
    rw [show encS p = encP p from if_pos h]; exact bytesP_any p aa ac ca cc W b (fit_right h) (by omega) (by omega) (by omega)
  have HE0 : Hid (chkP p ≠ 0 → encS p = ⟨#[]⟩) := fun h => if_neg h
  have HQL : (decP s).asks.length ≤ 6 ∧ (decP s).codes.length ≤ 6 := by
    by_cases h : decE s = 0
    · have := chkP_ok (enc_dec h).1; omega
    · unfold decP; rw [if_neg h]; exact ⟨Nat.zero_le _, Nat.zero_le _⟩
  have CT : Hid (∀ W, Max W → Calls Tryd.prog 11 #[.string s] W fun e w' => ∃ ab cb ad cd, e = .returned (.tuple #[pkV (decP s) ab cb ad cd, .int .i64 (decE s)]) ∧ PkIn w' (decP s) ab ad ∧ Below W.heap.size W w') := fun W a => by
    refine (decode_any s W (by unfold maxLen; omega) a).mono ?_
    rintro e w' ⟨ab, cb, ad, cd, rfl, hin, hbl⟩
    exact ⟨ab, cb, ad, cd, rfl, hin.1, hbl⟩
  have CO : Hid (∀ W, Calls Tryd.prog 14 #[.string s] W fun e w' => ∃ ab cb ad cd, e = .returned (.tuple #[pkV (decP s) ab cb ad cd, .int .i64 (decE s)]) ∧ PkIn w' (decP s) ab ad ∧ Below W.heap.size W w') := fun W => by
    refine (pof_any s W hs).mono ?_
    rintro e w' ⟨ab, cb, ad, cd, rfl, hin, hbl⟩
    exact ⟨ab, cb, ad, cd, rfl, hin.1, hbl⟩
  clear hs ht hta
  generalize decP s = q at *
  generalize decE s = E at *
  have CS : Hid (∀ W ab ad af ah cb cd cf ch, PkIn W q ab ad → PkIn W q af ah → Calls Tryd.prog 10 #[pkV q ab cb ad cd, pkV q af cf ah ch] W fun e w' => e = .returned (.bool true) ∧ Below W.heap.size W w') := fun W ab ad af ah cb cd cf ch a b => same_yes q ab ad af ah cb cd cf ch W a b HQL.1 HQL.2
  clear HQL
  generalize encS p = S at *
  generalize chkP p = C at *
  have hbw : Below w.heap.size w (w.alloc (.cells #[.int .i64 p.kind, .bool p.dup, .bool p.retain, .bool p.clean, .bool p.session, .int .i64 p.qos, .int .i64 p.id, .int .i64 p.keep, .int .i64 p.code, .string p.client, .string p.topic, .string p.payload, .slice aa p.asks.length ca, .slice ac p.codes.length cc] 25)) := (Below.refl _ _).alloc (Nat.le_refl _) _
  have d1 : PAt w.heap.size p (.slice aa p.asks.length ca) (.slice ac p.codes.length cc) (w.alloc (.cells #[.int .i64 p.kind, .bool p.dup, .bool p.retain, .bool p.clean, .bool p.session, .int .i64 p.qos, .int .i64 p.id, .int .i64 p.keep, .int .i64 p.code, .string p.client, .string p.topic, .string p.payload, .slice aa p.asks.length ca, .slice ac p.codes.length cc] 25)) := Go.heap_alloc_new w _
  have HM := hide hm
  have H1 := hide h1
  clear h1 hm
  simp only [pkV] at CP CR CK CB CS ⊢
  go_enter Tryd.func4, Tryd.ntmps4
  go_upto_region 1 with fail
  revert hbw d1
  generalize w.alloc (.cells #[.int .i64 p.kind, .bool p.dup, .bool p.retain, .bool p.clean, .bool p.session, .int .i64 p.qos, .int .i64 p.id, .int .i64 p.keep, .int .i64 p.code, .string p.client, .string p.topic, .string p.payload, .slice aa p.asks.length ca, .slice ac p.codes.length cc] 25) = W0
  intro hbw d1
  have HB0 := hide hbw
  have D0 := hide d1
  have x1 := d1.cell
  clear hbw d1
  go_wp2_with fail
  refine (CP.out _ (HM.out.below HB0.out) (H1.out.below HB0.out)).mono ?_
  rintro e w1 ⟨rfl, hb⟩
  have D1 := hide (D0.out.after hb)
  have HB1 := hide (below_step HB0.out hb)
  clear hb x1 D0 HB0
  have x1 := D1.out.cell
  go_wp2_with fail
  refine (CT.out _ (HM.out.below HB1.out)).mono ?_
  rintro e w2 ⟨ab, cb, ad, cd, rfl, hin, hb⟩
  simp only [pkV]
  have D2 := hide (D1.out.after hb)
  have HB2 := hide (below_step HB1.out hb)
  have HI2 := hide hin
  clear hb hin x1 D1 HB1
  have x1 := D2.out.cell
  have hbx : Below w2.heap.size w2 (w2.alloc (.cells #[.int .i64 q.kind, .bool q.dup, .bool q.retain, .bool q.clean, .bool q.session, .int .i64 q.qos, .int .i64 q.id, .int .i64 q.keep, .int .i64 q.code, .string q.client, .string q.topic, .string q.payload, .slice ab q.asks.length cb, .slice ad q.codes.length cd] 25)) := (Below.refl _ _).alloc (Nat.le_refl _) _
  have y1 : PAt w2.heap.size q (.slice ab q.asks.length cb) (.slice ad q.codes.length cd) (w2.alloc (.cells #[.int .i64 q.kind, .bool q.dup, .bool q.retain, .bool q.clean, .bool q.session, .int .i64 q.qos, .int .i64 q.id, .int .i64 q.keep, .int .i64 q.code, .string q.client, .string q.topic, .string q.payload, .slice ab q.asks.length cb, .slice ad q.codes.length cd] 25)) := Go.heap_alloc_new w2 _
  go_upto_region 3 with fail
  revert hbx y1
  generalize w2.alloc (.cells #[.int .i64 q.kind, .bool q.dup, .bool q.retain, .bool q.clean, .bool q.session, .int .i64 q.qos, .int .i64 q.id, .int .i64 q.keep, .int .i64 q.code, .string q.client, .string q.topic, .string q.payload, .slice ab q.asks.length cb, .slice ad q.codes.length cd] 25) = W3
  intro hbx y1
  have D3 := hide (D2.out.after hbx)
  have HB3 := hide (below_step HB2.out hbx)
  have HI3 := hide (HI2.out.below hbx)
  have Y3 := hide y1
  clear hbx y1 x1 D2 HB2 HI2
  have x1 := D3.out.cell
  go_wp2_with fail
  refine (CR.out _ (H1.out.below HB3.out)).mono ?_
  rintro e w4 ⟨rfl, hb⟩
  have D4 := hide (D3.out.after hb)
  have Y4 := hide (Y3.out.after hb)
  have HB4 := hide (below_step HB3.out hb)
  have HI4 := hide (HI3.out.below hb)
  clear hb x1 D3 Y3 HB3 HI3 CP CT CR
  have x1 := D4.out.cell
  by_cases kc : C = 0
  · have CB' := hide (CB.out kc)
    have kc' : (C == 0) = true := by simp [kc]
    clear CB kc HE0
    go_wp2_with fail
    refine (CB'.out _ (H1.out.below HB4.out)).mono ?_
    rintro e w5 ⟨rfl, hb⟩
    have D5 := hide (D4.out.after hb)
    have Y5 := hide (Y4.out.after hb)
    have HB5 := hide (below_step HB4.out hb)
    have HI5 := hide (HI4.out.below hb)
    clear hb x1 D4 Y4 HB4 HI4 CB'
    have x1 := D5.out.cell
    go_wp2_with fail
    refine (CO.out _).mono ?_
    rintro e w6 ⟨af, cf, ah, ch, rfl, hin, hb⟩
    simp only [pkV]
    have D6 := hide (D5.out.after hb)
    have Y6 := hide (Y5.out.after hb)
    have HB6 := hide (below_step HB5.out hb)
    have HI6 := hide (HI5.out.below hb)
    have HJ6 := hide hin
    clear hb hin x1 D5 Y5 HB5 HI5
    have hbx : Below w6.heap.size w6 (w6.alloc (.cells #[.int .i64 q.kind, .bool q.dup, .bool q.retain, .bool q.clean, .bool q.session, .int .i64 q.qos, .int .i64 q.id, .int .i64 q.keep, .int .i64 q.code, .string q.client, .string q.topic, .string q.payload, .slice af q.asks.length cf, .slice ah q.codes.length ch] 25)) := (Below.refl _ _).alloc (Nat.le_refl _) _
    have z1 : PAt w6.heap.size q (.slice af q.asks.length cf) (.slice ah q.codes.length ch) (w6.alloc (.cells #[.int .i64 q.kind, .bool q.dup, .bool q.retain, .bool q.clean, .bool q.session, .int .i64 q.qos, .int .i64 q.id, .int .i64 q.keep, .int .i64 q.code, .string q.client, .string q.topic, .string q.payload, .slice af q.asks.length cf, .slice ah q.codes.length ch] 25)) := Go.heap_alloc_new w6 _
    go_upto_region 7 with fail
    revert hbx z1
    generalize w6.alloc (.cells #[.int .i64 q.kind, .bool q.dup, .bool q.retain, .bool q.clean, .bool q.session, .int .i64 q.qos, .int .i64 q.id, .int .i64 q.keep, .int .i64 q.code, .string q.client, .string q.topic, .string q.payload, .slice af q.asks.length cf, .slice ah q.codes.length ch] 25) = W7
    intro hbx z1
    have D7 := hide (D6.out.after hbx)
    have Y7 := hide (Y6.out.after hbx)
    have Z7 := hide z1
    have HB7 := hide (below_step HB6.out hbx)
    have HI7 := hide (HI6.out.below hbx)
    have HJ7 := hide (HJ6.out.below hbx)
    clear hbx z1 D6 Y6 HB6 HI6 HJ6
    go_wp2_with fail
    refine (packetBegun_yes _ (HM.out.below HB7.out)).mono ?_
    rintro e w8 ⟨rfl, hb⟩
    have D8 := hide (D7.out.after hb)
    have Y8 := hide (Y7.out.after hb)
    have Z8 := hide (Z7.out.after hb)
    have HB8 := hide (below_step HB7.out hb)
    have HI8 := hide (HI7.out.below hb)
    have HJ8 := hide (HJ7.out.below hb)
    clear hb D7 Y7 Z7 HB7 HI7 HJ7
    have x1 := D8.out.cell
    go_wp2_with fail
    refine (CK.out _ (HM.out.below HB8.out) (H1.out.below HB8.out)).mono ?_
    rintro e w9 ⟨rfl, hb⟩
    have Y9 := hide (Y8.out.after hb)
    have Z9 := hide (Z8.out.after hb)
    have HB9 := hide (below_step HB8.out hb)
    have HI9 := hide (HI8.out.below hb)
    have HJ9 := hide (HJ8.out.below hb)
    clear hb x1 D8 Y8 Z8 HB8 HI8 HJ8
    have y1 := Y9.out.cell
    have z1 := Z9.out.cell
    go_wp2_with fail
    refine (CS.out _ ab ad af ah cb cd cf ch HI9.out HJ9.out).mono ?_
    rintro e v5 ⟨rfl, hb⟩
    have HBX := hide (below_step HB9.out hb)
    clear hb y1 z1 Y9 Z9 HB9
    go_wp2
    exact bodyPost_ret (v := .bool true) (by simp [results, Tryd.results4, go_sem]) rfl ⟨rfl, HBX.out⟩
  · have kc' : (C == 0) = false := by simp [kc]
    have hS := HE0.out kc
    subst hS
    clear CB kc HE0
    go_wp2_with fail
    refine (CO.out _).mono ?_
    rintro e w6 ⟨af, cf, ah, ch, rfl, hin, hb⟩
    simp only [pkV]
    have D6 := hide (D4.out.after hb)
    have Y6 := hide (Y4.out.after hb)
    have HB6 := hide (below_step HB4.out hb)
    have HI6 := hide (HI4.out.below hb)
    have HJ6 := hide hin
    clear hb hin x1 D4 Y4 HB4 HI4
    have hbx : Below w6.heap.size w6 (w6.alloc (.cells #[.int .i64 q.kind, .bool q.dup, .bool q.retain, .bool q.clean, .bool q.session, .int .i64 q.qos, .int .i64 q.id, .int .i64 q.keep, .int .i64 q.code, .string q.client, .string q.topic, .string q.payload, .slice af q.asks.length cf, .slice ah q.codes.length ch] 25)) := (Below.refl _ _).alloc (Nat.le_refl _) _
    have z1 : PAt w6.heap.size q (.slice af q.asks.length cf) (.slice ah q.codes.length ch) (w6.alloc (.cells #[.int .i64 q.kind, .bool q.dup, .bool q.retain, .bool q.clean, .bool q.session, .int .i64 q.qos, .int .i64 q.id, .int .i64 q.keep, .int .i64 q.code, .string q.client, .string q.topic, .string q.payload, .slice af q.asks.length cf, .slice ah q.codes.length ch] 25)) := Go.heap_alloc_new w6 _
    go_upto_region 7 with fail
    revert hbx z1
    generalize w6.alloc (.cells #[.int .i64 q.kind, .bool q.dup, .bool q.retain, .bool q.clean, .bool q.session, .int .i64 q.qos, .int .i64 q.id, .int .i64 q.keep, .int .i64 q.code, .string q.client, .string q.topic, .string q.payload, .slice af q.asks.length cf, .slice ah q.codes.length ch] 25) = W7
    intro hbx z1
    have D7 := hide (D6.out.after hbx)
    have Y7 := hide (Y6.out.after hbx)
    have Z7 := hide z1
    have HB7 := hide (below_step HB6.out hbx)
    have HI7 := hide (HI6.out.below hbx)
    have HJ7 := hide (HJ6.out.below hbx)
    clear hbx z1 D6 Y6 HB6 HI6 HJ6
    go_wp2_with fail
    refine (packetBegun_yes _ (HM.out.below HB7.out)).mono ?_
    rintro e w8 ⟨rfl, hb⟩
    have D8 := hide (D7.out.after hb)
    have Y8 := hide (Y7.out.after hb)
    have Z8 := hide (Z7.out.after hb)
    have HB8 := hide (below_step HB7.out hb)
    have HI8 := hide (HI7.out.below hb)
    have HJ8 := hide (HJ7.out.below hb)
    clear hb D7 Y7 Z7 HB7 HI7 HJ7
    have x1 := D8.out.cell
    go_wp2_with fail
    refine (CK.out _ (HM.out.below HB8.out) (H1.out.below HB8.out)).mono ?_
    rintro e w9 ⟨rfl, hb⟩
    have Y9 := hide (Y8.out.after hb)
    have Z9 := hide (Z8.out.after hb)
    have HB9 := hide (below_step HB8.out hb)
    have HI9 := hide (HI8.out.below hb)
    have HJ9 := hide (HJ8.out.below hb)
    clear hb x1 D8 Y8 Z8 HB8 HI8 HJ8
    have y1 := Y9.out.cell
    have z1 := Z9.out.cell
    go_wp2_with fail
    refine (CS.out _ ab ad af ah cb cd cf ch HI9.out HJ9.out).mono ?_
    rintro e v5 ⟨rfl, hb⟩
    have HBX := hide (below_step HB9.out hb)
    clear hb y1 z1 Y9 Z9 HB9
    go_wp2
    exact bodyPost_ret (v := .bool true) (by simp [results, Tryd.results4, go_sem]) rfl ⟨rfl, HBX.out⟩
theorem packetTells_any (p : Pk) (aa ac : Option Addr) (ca cc : Nat) {w : World} (h1 : PkIn w p aa ac) (s : ByteArray) (_hs : s.size ≤ maxLen) (hm : Max w) (z0 : p.topic.size ≤ 1048576 ∧ ∀ a ∈ p.asks, a.1.size ≤ 1048576) (z1 : s.size ≤ 1048576) :
    Calls Tryd.prog 4 #[pkV p aa ca ac cc, .string s] w fun e w' => e = .returned (.bool true) ∧ Below w.heap.size w w' := packetTells_walk p aa ac ca cc s w hm h1 z1 z0.1 z0.2
end Go.Proofs.YtnjdpibgfbbkcabDoor
