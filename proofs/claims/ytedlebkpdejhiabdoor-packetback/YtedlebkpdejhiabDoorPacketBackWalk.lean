/-
  The walk of dragomanlaw.PacketBack: it answers true, whatever packet and bytes it is handed.
-/
import Derived.Test.YtedlebkpdejhiabDoorPacketBegun
import Derived.Test.YtedlebkpdejhiabDoorPacketForthAll
namespace Go.Proofs.YtedlebkpdejhiabDoor
open Go.RowKit Go.PlainAid

set_option maxHeartbeats 8000000 in
set_option maxRecDepth 100000 in
theorem packetBack_walk (p : Pk) (aa ac : Option Addr) (ca cc : Nat) (s : ByteArray) (w : World) (hm : Max w) (h1 : PkIn w p aa ac) (hs : s.size ≤ maxLen) :
    Calls Tryd.prog 5 #[pkV p aa ca ac cc, .string s] w fun e w' => e = .returned (.bool true) ∧ Below w.heap.size w w' := by
  have CP : Hid (∀ W, Max W → PkIn W p aa ac → Calls Tryd.prog 8 #[pkV p aa ca ac cc] W fun e w' => e = .returned (.tuple #[.string (encS p), .int .i64 (chkP p)]) ∧ Below W.heap.size W w') := fun W a b => encode_any p aa ac ca cc W a b
  have CD : Hid (chkP p = 0 → ∀ W, Max W → Calls Tryd.prog 11 #[.string (encS p)] W fun e w' => ∃ ab cb ad cd, e = .returned (.tuple #[pkV p ab cb ad cd, .int .i64 0]) ∧ PkIn w' p ab ad ∧ Below W.heap.size W w') := fun h W a => by
    have hok := chkP_ok h
    have hb := bodyS_size hok.2.2.1 hok.2.2.2.1 hok.2.2.2.2.1
    have hsz : (encS p).size ≤ maxLen := by
      obtain ⟨u, q1, q2, q3, q4, q5⟩ := enc_len h
      obtain ⟨u', r1, r2, r3, r4, r5, r6⟩ := lenOk_ok q1
      have hu : u = u' := by omega
      rw [show encS p = encP p from if_pos h, q3, ByteArray.size_append]
      unfold maxLen; omega
    refine (decode_any (encS p) W hsz a).mono ?_
    rintro e w' ⟨ab, cb, ad, cd, rfl, hin, hbl⟩
    have hd := dec_enc h
    rw [show encS p = encP p from if_pos h] at hin ⊢
    rw [hd.1] at hin
    rw [hd.1, hd.2]
    exact ⟨ab, cb, ad, cd, rfl, hin.1, hbl⟩
  have CS : Hid (chkP p = 0 → ∀ W ab cb ad cd, PkIn W p ab ad → PkIn W p aa ac → Calls Tryd.prog 10 #[pkV p ab cb ad cd, pkV p aa ca ac cc] W fun e w' => e = .returned (.bool true) ∧ Below W.heap.size W w') := fun h W ab cb ad cd a b => by
    have := chkP_ok h
    exact same_yes p ab ad aa ac cb cd ca cc W a b (by omega) (by omega)
  obtain ⟨q, hq⟩ : ∃ q, q = decP s := ⟨_, rfl⟩
  obtain ⟨E, hE⟩ : ∃ E, E = decE s := ⟨_, rfl⟩
  have CT : Hid (∀ W, Max W → Calls Tryd.prog 11 #[.string s] W fun e w' => ∃ ab cb ad cd, e = .returned (.tuple #[pkV q ab cb ad cd, .int .i64 E]) ∧ PkIn w' q ab ad ∧ Below W.heap.size W w') := fun W a => by
    refine (decode_any s W hs a).mono ?_
    rintro e w' ⟨ab, cb, ad, cd, rfl, hin, hbl⟩
    exact ⟨ab, cb, ad, cd, by rw [hq, hE], by rw [hq]; exact hin.1, hbl⟩
  have CE : Hid (E = 0 → ∀ W ab cb ad cd, Max W → PkIn W q ab ad → Calls Tryd.prog 8 #[pkV q ab cb ad cd] W fun e w' => e = .returned (.tuple #[.string s, .int .i64 0]) ∧ Below W.heap.size W w') := fun h W ab cb ad cd a b => by
    have hd := enc_dec (s := s) (by rw [← hE]; exact h)
    rw [← hq] at hd
    have := encode_any q ab ad cb cd W a b
    rwa [show encS q = encP q from if_pos hd.1, hd.1, hd.2] at this
  have HK : Hid (E ≠ 0 → q.kind = 0) := fun h => by rw [hq]; show (decP s).kind = 0; unfold decP; rw [if_neg (by rw [← hE]; exact h)]; rfl
  clear hq hE
  have hbw : Below w.heap.size w (w.alloc (.cells #[.int .i64 p.kind, .bool p.dup, .bool p.retain, .bool p.clean, .bool p.session, .int .i64 p.qos, .int .i64 p.id, .int .i64 p.keep, .int .i64 p.code, .string p.client, .string p.topic, .string p.payload, .slice aa p.asks.length ca, .slice ac p.codes.length cc] 25)) := (Below.refl _ _).alloc (Nat.le_refl _) _
  have d1 : ∀ o, (w.alloc (.cells #[.int .i64 p.kind, .bool p.dup, .bool p.retain, .bool p.clean, .bool p.session, .int .i64 p.qos, .int .i64 p.id, .int .i64 p.keep, .int .i64 p.code, .string p.client, .string p.topic, .string p.payload, .slice aa p.asks.length ca, .slice ac p.codes.length cc] 25)).cell? ⟨w.heap.size, o, none⟩ = (#[.int .i64 p.kind, .bool p.dup, .bool p.retain, .bool p.clean, .bool p.session, .int .i64 p.qos, .int .i64 p.id, .int .i64 p.keep, .int .i64 p.code, .string p.client, .string p.topic, .string p.payload, .slice aa p.asks.length ca, .slice ac p.codes.length cc] : Array Value)[o]? := fun o => Lib.cell_of_heap (Go.heap_alloc_new w _) o
  have hsz : (w.alloc (.cells #[.int .i64 p.kind, .bool p.dup, .bool p.retain, .bool p.clean, .bool p.session, .int .i64 p.qos, .int .i64 p.id, .int .i64 p.keep, .int .i64 p.code, .string p.client, .string p.topic, .string p.payload, .slice aa p.asks.length ca, .slice ac p.codes.length cc] 25)).heap.size = w.heap.size + 1 := by simp
  have HM := hide hm
  have H1 := hide h1
  clear hm h1
  simp only [pkV] at CP CD CS CT CE ⊢
  go_enter Tryd.func5, Tryd.ntmps5
  go_upto_region 1 with fail
  revert hbw d1 hsz
  generalize w.alloc (.cells #[.int .i64 p.kind, .bool p.dup, .bool p.retain, .bool p.clean, .bool p.session, .int .i64 p.qos, .int .i64 p.id, .int .i64 p.keep, .int .i64 p.code, .string p.client, .string p.topic, .string p.payload, .slice aa p.asks.length ca, .slice ac p.codes.length cc] 25) = W0
  intro hbw d1 hsz
  have HB0 := hide hbw
  clear hbw
  go_wp2_with fail
  refine (packetBegun_yes _ (HM.out.below HB0.out)).mono ?_
  rintro e w1 ⟨rfl, hb1⟩
  have e1 : ∀ o, w1.cell? ⟨w.heap.size, o, none⟩ = (#[.int .i64 p.kind, .bool p.dup, .bool p.retain, .bool p.clean, .bool p.session, .int .i64 p.qos, .int .i64 p.id, .int .i64 p.keep, .int .i64 p.code, .string p.client, .string p.topic, .string p.payload, .slice aa p.asks.length ca, .slice ac p.codes.length cc] : Array Value)[o]? := fun o => (hb1.cell (p := ⟨w.heap.size, o, none⟩) (by show w.heap.size < _; omega)).trans (d1 o)
  have HB1 := hide (below_step HB0.out hb1)
  have hs1 := hb1.size
  clear hb1 d1
  go_wp2_with fail
  refine (CP.out _ (HM.out.below HB1.out) (H1.out.below HB1.out)).mono ?_
  rintro e w2 ⟨rfl, hb2⟩
  have f1 : ∀ o, w2.cell? ⟨w.heap.size, o, none⟩ = (#[.int .i64 p.kind, .bool p.dup, .bool p.retain, .bool p.clean, .bool p.session, .int .i64 p.qos, .int .i64 p.id, .int .i64 p.keep, .int .i64 p.code, .string p.client, .string p.topic, .string p.payload, .slice aa p.asks.length ca, .slice ac p.codes.length cc] : Array Value)[o]? := fun o => (hb2.cell (p := ⟨w.heap.size, o, none⟩) (by show w.heap.size < _; omega)).trans (e1 o)
  have HB2 := hide (below_step HB1.out hb2)
  have hs2 := hb2.size
  clear hb2 e1
  by_cases k1 : chkP p = 0
  · have k1' : (chkP p == 0) = true := by simp [k1]
    have CD' := hide (CD.out k1)
    have CS' := hide (CS.out k1)
    clear CD CS CP k1
    revert CD'
    generalize encS p = S
    intro CD'
    go_wp2_with fail
    refine (CD'.out _ (HM.out.below HB2.out)).mono ?_
    rintro e w3 ⟨ab, cb, ad, cd, rfl, hin3, hb3⟩
    have g1 : ∀ o, w3.cell? ⟨w.heap.size, o, none⟩ = (#[.int .i64 p.kind, .bool p.dup, .bool p.retain, .bool p.clean, .bool p.session, .int .i64 p.qos, .int .i64 p.id, .int .i64 p.keep, .int .i64 p.code, .string p.client, .string p.topic, .string p.payload, .slice aa p.asks.length ca, .slice ac p.codes.length cc] : Array Value)[o]? := fun o => (hb3.cell (p := ⟨w.heap.size, o, none⟩) (by show w.heap.size < _; omega)).trans (f1 o)
    have HB3 := hide (below_step HB2.out hb3)
    have hs3 := hb3.size
    have HI3 := hide hin3
    clear hb3 f1 hin3
    have hbx : Below w3.heap.size w3 (w3.alloc (.cells #[.int .i64 p.kind, .bool p.dup, .bool p.retain, .bool p.clean, .bool p.session, .int .i64 p.qos, .int .i64 p.id, .int .i64 p.keep, .int .i64 p.code, .string p.client, .string p.topic, .string p.payload, .slice ab p.asks.length cb, .slice ad p.codes.length cd] 25)) := (Below.refl _ _).alloc (Nat.le_refl _) _
    have x1 : ∀ o, (w3.alloc (.cells #[.int .i64 p.kind, .bool p.dup, .bool p.retain, .bool p.clean, .bool p.session, .int .i64 p.qos, .int .i64 p.id, .int .i64 p.keep, .int .i64 p.code, .string p.client, .string p.topic, .string p.payload, .slice ab p.asks.length cb, .slice ad p.codes.length cd] 25)).cell? ⟨w3.heap.size, o, none⟩ = (#[.int .i64 p.kind, .bool p.dup, .bool p.retain, .bool p.clean, .bool p.session, .int .i64 p.qos, .int .i64 p.id, .int .i64 p.keep, .int .i64 p.code, .string p.client, .string p.topic, .string p.payload, .slice ab p.asks.length cb, .slice ad p.codes.length cd] : Array Value)[o]? := fun o => Lib.cell_of_heap (Go.heap_alloc_new w3 _) o
    go_upto_region 6 with fail
    revert hbx x1
    generalize w3.alloc (.cells #[.int .i64 p.kind, .bool p.dup, .bool p.retain, .bool p.clean, .bool p.session, .int .i64 p.qos, .int .i64 p.id, .int .i64 p.keep, .int .i64 p.code, .string p.client, .string p.topic, .string p.payload, .slice ab p.asks.length cb, .slice ad p.codes.length cd] 25) = W4
    intro hbx x1
    have x2 : ∀ o, W4.cell? ⟨w.heap.size, o, none⟩ = (#[.int .i64 p.kind, .bool p.dup, .bool p.retain, .bool p.clean, .bool p.session, .int .i64 p.qos, .int .i64 p.id, .int .i64 p.keep, .int .i64 p.code, .string p.client, .string p.topic, .string p.payload, .slice aa p.asks.length ca, .slice ac p.codes.length cc] : Array Value)[o]? := fun o => (hbx.cell (p := ⟨w.heap.size, o, none⟩) (by show w.heap.size < _; omega)).trans (g1 o)
    have HB4 := hide (below_step HB3.out hbx)
    have HI4 := hide (HI3.out.below hbx)
    clear hbx g1
    go_wp2_with fail
    refine (CS'.out _ ab cb ad cd HI4.out (H1.out.below HB4.out)).mono ?_
    rintro e w5 ⟨rfl, hb5⟩
    have HB5 := hide (below_step HB4.out hb5)
    clear hb5 x1 x2 CS' CD' HB0 HB1 HB2 HB3 HB4 HI3 HI4 hs1 hs2 hs3 hsz
    go_wp2_with fail
    refine (CT.out _ (HM.out.below HB5.out)).mono ?_
    rintro e w6 ⟨ae, ce, af, cf, rfl, hin6, hb6⟩
    have HB6 := hide (below_step HB5.out hb6)
    have HI6 := hide hin6
    clear hb6 hin6 HB5
    have hbx : Below w6.heap.size w6 (w6.alloc (.cells #[.int .i64 q.kind, .bool q.dup, .bool q.retain, .bool q.clean, .bool q.session, .int .i64 q.qos, .int .i64 q.id, .int .i64 q.keep, .int .i64 q.code, .string q.client, .string q.topic, .string q.payload, .slice ae q.asks.length ce, .slice af q.codes.length cf] 25)) := (Below.refl _ _).alloc (Nat.le_refl _) _
    have x1 : ∀ o, (w6.alloc (.cells #[.int .i64 q.kind, .bool q.dup, .bool q.retain, .bool q.clean, .bool q.session, .int .i64 q.qos, .int .i64 q.id, .int .i64 q.keep, .int .i64 q.code, .string q.client, .string q.topic, .string q.payload, .slice ae q.asks.length ce, .slice af q.codes.length cf] 25)).cell? ⟨w6.heap.size, o, none⟩ = (#[.int .i64 q.kind, .bool q.dup, .bool q.retain, .bool q.clean, .bool q.session, .int .i64 q.qos, .int .i64 q.id, .int .i64 q.keep, .int .i64 q.code, .string q.client, .string q.topic, .string q.payload, .slice ae q.asks.length ce, .slice af q.codes.length cf] : Array Value)[o]? := fun o => Lib.cell_of_heap (Go.heap_alloc_new w6 _) o
    go_upto_region 9 with fail
    revert hbx x1
    generalize w6.alloc (.cells #[.int .i64 q.kind, .bool q.dup, .bool q.retain, .bool q.clean, .bool q.session, .int .i64 q.qos, .int .i64 q.id, .int .i64 q.keep, .int .i64 q.code, .string q.client, .string q.topic, .string q.payload, .slice ae q.asks.length ce, .slice af q.codes.length cf] 25) = W7
    intro hbx x1
    have HB7 := hide (below_step HB6.out hbx)
    have HI7 := hide (HI6.out.below hbx)
    clear hbx HB6 HI6
    by_cases k2 : E = 0
    · have k2' : (E != 0) = false := by simp [k2]
      have CE' := hide (CE.out k2)
      clear k2 CE HK
      go_wp2_with fail
      refine (CE'.out _ ae ce af cf (HM.out.below HB7.out) HI7.out).mono ?_
      rintro e w8 ⟨rfl, hb8⟩
      have HB8 := hide (below_step HB7.out hb8)
      clear hb8
      go_wp2
      go_ret
      exact ⟨by simp, HB8.out⟩
    · have k2' : (E != 0) = true := by simp [k2]
      have hk0 := HK.out k2
      clear k2 CE HK
      go_wp2
      go_ret
      exact ⟨rfl, HB7.out⟩
  · have k1' : (chkP p == 0) = false := by simp [k1]
    have HB5 := HB2
    clear CD CS CP k1 HB0 HB1 HB2 hs1 hs2 hsz f1
    go_wp2_with fail
    refine (CT.out _ (HM.out.below HB5.out)).mono ?_
    rintro e w6 ⟨ae, ce, af, cf, rfl, hin6, hb6⟩
    have HB6 := hide (below_step HB5.out hb6)
    have HI6 := hide hin6
    clear hb6 hin6 HB5
    have hbx : Below w6.heap.size w6 (w6.alloc (.cells #[.int .i64 q.kind, .bool q.dup, .bool q.retain, .bool q.clean, .bool q.session, .int .i64 q.qos, .int .i64 q.id, .int .i64 q.keep, .int .i64 q.code, .string q.client, .string q.topic, .string q.payload, .slice ae q.asks.length ce, .slice af q.codes.length cf] 25)) := (Below.refl _ _).alloc (Nat.le_refl _) _
    have x1 : ∀ o, (w6.alloc (.cells #[.int .i64 q.kind, .bool q.dup, .bool q.retain, .bool q.clean, .bool q.session, .int .i64 q.qos, .int .i64 q.id, .int .i64 q.keep, .int .i64 q.code, .string q.client, .string q.topic, .string q.payload, .slice ae q.asks.length ce, .slice af q.codes.length cf] 25)).cell? ⟨w6.heap.size, o, none⟩ = (#[.int .i64 q.kind, .bool q.dup, .bool q.retain, .bool q.clean, .bool q.session, .int .i64 q.qos, .int .i64 q.id, .int .i64 q.keep, .int .i64 q.code, .string q.client, .string q.topic, .string q.payload, .slice ae q.asks.length ce, .slice af q.codes.length cf] : Array Value)[o]? := fun o => Lib.cell_of_heap (Go.heap_alloc_new w6 _) o
    go_upto_region 9 with fail
    revert hbx x1
    generalize w6.alloc (.cells #[.int .i64 q.kind, .bool q.dup, .bool q.retain, .bool q.clean, .bool q.session, .int .i64 q.qos, .int .i64 q.id, .int .i64 q.keep, .int .i64 q.code, .string q.client, .string q.topic, .string q.payload, .slice ae q.asks.length ce, .slice af q.codes.length cf] 25) = W7
    intro hbx x1
    have HB7 := hide (below_step HB6.out hbx)
    have HI7 := hide (HI6.out.below hbx)
    clear hbx HB6 HI6
    by_cases k2 : E = 0
    · have k2' : (E != 0) = false := by simp [k2]
      have CE' := hide (CE.out k2)
      clear k2 CE HK
      go_wp2_with fail
      refine (CE'.out _ ae ce af cf (HM.out.below HB7.out) HI7.out).mono ?_
      rintro e w8 ⟨rfl, hb8⟩
      have HB8 := hide (below_step HB7.out hb8)
      clear hb8
      go_wp2
      go_ret
      exact ⟨by simp, HB8.out⟩
    · have k2' : (E != 0) = true := by simp [k2]
      have hk0 := HK.out k2
      clear k2 CE HK
      go_wp2
      go_ret
      exact ⟨rfl, HB7.out⟩

theorem packetBack_lift {w : World} (p : Pk) (aa ac : Option Addr) (ca cc : Nat) (h1 : PkIn w p aa ac) (s : ByteArray) (hs : s.size ≤ maxLen) (hm : Max w) :
    Calls Tryd.prog 5 #[pkV p aa ca ac cc, .string s] w fun e w' => e = .returned (.bool true) ∧ Below w.heap.size w w' := packetBack_walk p aa ac ca cc s w hm h1 hs
end Go.Proofs.YtedlebkpdejhiabDoor
