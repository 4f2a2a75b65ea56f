/-
  The walk of dragomanlaw.PacketApart: it answers true, whatever two packets it is handed.
-/
import Derived.Test.YtedlebkpdejhiabDoorPacketBegun
import Derived.Test.YtedlebkpdejhiabDoorPacketBackJoined
namespace Go.Proofs.YtedlebkpdejhiabDoor
open Go.RowKit Go.PlainAid

theorem ext_toList {s t : ByteArray} (h : t.extract 0 s.size = s) : ∃ y, t = s ++ y := by
  refine ⟨t.extract s.size t.size, ?_⟩
  apply ByteArray.ext
  apply Array.toList_inj.1
  have e := congrArg (fun x : ByteArray => x.data.toList) h
  simp only [Lib.extract_data, List.drop_zero, Nat.sub_zero] at e
  have e2 : t.data.toList.length = t.size := by simp
  rw [ByteArray.data_append, Array.toList_append, Lib.extract_data]
  conv => rhs; rw [← e]
  rw [List.take_of_length_le (l := List.drop s.size t.data.toList) (by rw [List.length_drop]; omega), List.take_append_drop]

set_option maxHeartbeats 8000000 in
set_option maxRecDepth 100000 in
theorem apart_walk (p q : Pk) (aa ac ab ad : Option Addr) (ca cc cb cd : Nat) (w : World) (hm : Max w) (h1 : PkIn w p aa ac) (h2 : PkIn w q ab ad) :
    Calls Tryd.prog 3 #[pkV p aa ca ac cc, pkV q ab cb ad cd] w fun e w' => e = .returned (.bool true) ∧ Below w.heap.size w w' := by
  have CP : Hid (∀ W, Max W → PkIn W p aa ac → Calls Tryd.prog 8 #[pkV p aa ca ac cc] W fun e w' => e = .returned (.tuple #[.string (encS p), .int .i64 (chkP p)]) ∧ Below W.heap.size W w') := fun W a b => encode_any p aa ac ca cc W a b
  have CQ : Hid (∀ W, Max W → PkIn W q ab ad → Calls Tryd.prog 8 #[pkV q ab cb ad cd] W fun e w' => e = .returned (.tuple #[.string (encS q), .int .i64 (chkP q)]) ∧ Below W.heap.size W w') := fun W a b => encode_any q ab ad cb cd W a b
  have CS : Hid (p = q → chkP p = 0 → ∀ W, PkIn W p aa ac → PkIn W q ab ad → Calls Tryd.prog 10 #[pkV p aa ca ac cc, pkV q ab cb ad cd] W fun e w' => e = .returned (.bool true) ∧ Below W.heap.size W w') := fun e h W a b => by
    subst e
    have := chkP_ok h
    exact same_yes p aa ac ab ad ca cc cb cd W a b (by omega) (by omega)
  have hbw : Below w.heap.size w ((w.alloc (.cells #[.int .i64 p.kind, .bool p.dup, .bool p.retain, .bool p.clean, .bool p.session, .int .i64 p.qos, .int .i64 p.id, .int .i64 p.keep, .int .i64 p.code, .string p.client, .string p.topic, .string p.payload, .slice aa p.asks.length ca, .slice ac p.codes.length cc] 25)).alloc (.cells #[.int .i64 q.kind, .bool q.dup, .bool q.retain, .bool q.clean, .bool q.session, .int .i64 q.qos, .int .i64 q.id, .int .i64 q.keep, .int .i64 q.code, .string q.client, .string q.topic, .string q.payload, .slice ab q.asks.length cb, .slice ad q.codes.length cd] 25)) := ((Below.refl _ _).alloc (Nat.le_refl _) _).alloc (by simp) _
  have d1 : ∀ o, ((w.alloc (.cells #[.int .i64 p.kind, .bool p.dup, .bool p.retain, .bool p.clean, .bool p.session, .int .i64 p.qos, .int .i64 p.id, .int .i64 p.keep, .int .i64 p.code, .string p.client, .string p.topic, .string p.payload, .slice aa p.asks.length ca, .slice ac p.codes.length cc] 25)).alloc (.cells #[.int .i64 q.kind, .bool q.dup, .bool q.retain, .bool q.clean, .bool q.session, .int .i64 q.qos, .int .i64 q.id, .int .i64 q.keep, .int .i64 q.code, .string q.client, .string q.topic, .string q.payload, .slice ab q.asks.length cb, .slice ad q.codes.length cd] 25)).cell? ⟨w.heap.size, o, none⟩ = (#[.int .i64 p.kind, .bool p.dup, .bool p.retain, .bool p.clean, .bool p.session, .int .i64 p.qos, .int .i64 p.id, .int .i64 p.keep, .int .i64 p.code, .string p.client, .string p.topic, .string p.payload, .slice aa p.asks.length ca, .slice ac p.codes.length cc] : Array Value)[o]? := fun o => Lib.cell_of_heap (heap2 w _ _).1 o
  have d2 : ∀ o, ((w.alloc (.cells #[.int .i64 p.kind, .bool p.dup, .bool p.retain, .bool p.clean, .bool p.session, .int .i64 p.qos, .int .i64 p.id, .int .i64 p.keep, .int .i64 p.code, .string p.client, .string p.topic, .string p.payload, .slice aa p.asks.length ca, .slice ac p.codes.length cc] 25)).alloc (.cells #[.int .i64 q.kind, .bool q.dup, .bool q.retain, .bool q.clean, .bool q.session, .int .i64 q.qos, .int .i64 q.id, .int .i64 q.keep, .int .i64 q.code, .string q.client, .string q.topic, .string q.payload, .slice ab q.asks.length cb, .slice ad q.codes.length cd] 25)).cell? ⟨w.heap.size + 1, o, none⟩ = (#[.int .i64 q.kind, .bool q.dup, .bool q.retain, .bool q.clean, .bool q.session, .int .i64 q.qos, .int .i64 q.id, .int .i64 q.keep, .int .i64 q.code, .string q.client, .string q.topic, .string q.payload, .slice ab q.asks.length cb, .slice ad q.codes.length cd] : Array Value)[o]? := fun o => Lib.cell_of_heap (heap2 w _ _).2 o
  have hsz : ((w.alloc (.cells #[.int .i64 p.kind, .bool p.dup, .bool p.retain, .bool p.clean, .bool p.session, .int .i64 p.qos, .int .i64 p.id, .int .i64 p.keep, .int .i64 p.code, .string p.client, .string p.topic, .string p.payload, .slice aa p.asks.length ca, .slice ac p.codes.length cc] 25)).alloc (.cells #[.int .i64 q.kind, .bool q.dup, .bool q.retain, .bool q.clean, .bool q.session, .int .i64 q.qos, .int .i64 q.id, .int .i64 q.keep, .int .i64 q.code, .string q.client, .string q.topic, .string q.payload, .slice ab q.asks.length cb, .slice ad q.codes.length cd] 25)).heap.size = w.heap.size + 2 := by simp
  have HM := hide hm
  have H1 := hide h1
  have H2 := hide h2
  clear hm h1 h2
  simp only [pkV] at CP CQ CS ⊢
  go_enter Tryd.func3, Tryd.ntmps3
  go_upto_region 1 with fail
  revert hbw d1 d2 hsz
  generalize (w.alloc (.cells #[.int .i64 p.kind, .bool p.dup, .bool p.retain, .bool p.clean, .bool p.session, .int .i64 p.qos, .int .i64 p.id, .int .i64 p.keep, .int .i64 p.code, .string p.client, .string p.topic, .string p.payload, .slice aa p.asks.length ca, .slice ac p.codes.length cc] 25)).alloc (.cells #[.int .i64 q.kind, .bool q.dup, .bool q.retain, .bool q.clean, .bool q.session, .int .i64 q.qos, .int .i64 q.id, .int .i64 q.keep, .int .i64 q.code, .string q.client, .string q.topic, .string q.payload, .slice ab q.asks.length cb, .slice ad q.codes.length cd] 25) = W0
  intro hbw d1 d2 hsz
  have HB0 := hide hbw
  clear hbw
  go_wp2_with fail
  refine (CP.out _ (HM.out.below HB0.out) (H1.out.below HB0.out)).mono ?_
  rintro e w1 ⟨rfl, hb1⟩
  have e1 : ∀ o, w1.cell? ⟨w.heap.size, o, none⟩ = (#[.int .i64 p.kind, .bool p.dup, .bool p.retain, .bool p.clean, .bool p.session, .int .i64 p.qos, .int .i64 p.id, .int .i64 p.keep, .int .i64 p.code, .string p.client, .string p.topic, .string p.payload, .slice aa p.asks.length ca, .slice ac p.codes.length cc] : Array Value)[o]? := fun o => (hb1.cell (p := ⟨w.heap.size, o, none⟩) (by show w.heap.size < _; omega)).trans (d1 o)
  have e2 : ∀ o, w1.cell? ⟨w.heap.size + 1, o, none⟩ = (#[.int .i64 q.kind, .bool q.dup, .bool q.retain, .bool q.clean, .bool q.session, .int .i64 q.qos, .int .i64 q.id, .int .i64 q.keep, .int .i64 q.code, .string q.client, .string q.topic, .string q.payload, .slice ab q.asks.length cb, .slice ad q.codes.length cd] : Array Value)[o]? := fun o => (hb1.cell (p := ⟨w.heap.size + 1, o, none⟩) (by show w.heap.size + 1 < _; omega)).trans (d2 o)
  have HB1 := hide (below_step HB0.out hb1)
  have hs1 := hb1.size
  clear hb1 d1 d2
  go_wp2_with fail
  refine (CQ.out _ (HM.out.below HB1.out) (H2.out.below HB1.out)).mono ?_
  rintro e w2 ⟨rfl, hb2⟩
  have f1 : ∀ o, w2.cell? ⟨w.heap.size, o, none⟩ = (#[.int .i64 p.kind, .bool p.dup, .bool p.retain, .bool p.clean, .bool p.session, .int .i64 p.qos, .int .i64 p.id, .int .i64 p.keep, .int .i64 p.code, .string p.client, .string p.topic, .string p.payload, .slice aa p.asks.length ca, .slice ac p.codes.length cc] : Array Value)[o]? := fun o => (hb2.cell (p := ⟨w.heap.size, o, none⟩) (by show w.heap.size < _; omega)).trans (e1 o)
  have f2 : ∀ o, w2.cell? ⟨w.heap.size + 1, o, none⟩ = (#[.int .i64 q.kind, .bool q.dup, .bool q.retain, .bool q.clean, .bool q.session, .int .i64 q.qos, .int .i64 q.id, .int .i64 q.keep, .int .i64 q.code, .string q.client, .string q.topic, .string q.payload, .slice ab q.asks.length cb, .slice ad q.codes.length cd] : Array Value)[o]? := fun o => (hb2.cell (p := ⟨w.heap.size + 1, o, none⟩) (by show w.heap.size + 1 < _; omega)).trans (e2 o)
  have HB2 := hide (below_step HB1.out hb2)
  have hs2 := hb2.size
  clear hb2 e1 e2
  go_wp2_with fail
  refine (packetBegun_yes _ (HM.out.below HB2.out)).mono ?_
  rintro e w3 ⟨rfl, hb3⟩
  have g1 : ∀ o, w3.cell? ⟨w.heap.size, o, none⟩ = (#[.int .i64 p.kind, .bool p.dup, .bool p.retain, .bool p.clean, .bool p.session, .int .i64 p.qos, .int .i64 p.id, .int .i64 p.keep, .int .i64 p.code, .string p.client, .string p.topic, .string p.payload, .slice aa p.asks.length ca, .slice ac p.codes.length cc] : Array Value)[o]? := fun o => (hb3.cell (p := ⟨w.heap.size, o, none⟩) (by show w.heap.size < _; omega)).trans (f1 o)
  have g2 : ∀ o, w3.cell? ⟨w.heap.size + 1, o, none⟩ = (#[.int .i64 q.kind, .bool q.dup, .bool q.retain, .bool q.clean, .bool q.session, .int .i64 q.qos, .int .i64 q.id, .int .i64 q.keep, .int .i64 q.code, .string q.client, .string q.topic, .string q.payload, .slice ab q.asks.length cb, .slice ad q.codes.length cd] : Array Value)[o]? := fun o => (hb3.cell (p := ⟨w.heap.size + 1, o, none⟩) (by show w.heap.size + 1 < _; omega)).trans (f2 o)
  have HB3 := hide (below_step HB2.out hb3)
  have hs3 := hb3.size
  clear hb3 f1 f2
  by_cases k1 : chkP p = 0
  · have k1' : (chkP p != 0) = false := by simp [k1]
    by_cases k2 : chkP q = 0
    · have k2' : (chkP q != 0) = false := by simp [k2]
      have s1 : encS p = encP p := if_pos k1
      have s2 : encS q = encP q := if_pos k2
      have HAP : Hid ((∃ y, encS q = encS p ++ y) → p = q) := fun h => apart k1 k2 (by rw [← s1, ← s2]; exact h)
      have hbp := bodyS_size (chkP_ok k1).2.2.1 (chkP_ok k1).2.2.2.1 (chkP_ok k1).2.2.2.2.1
      have K1 := hide k1
      clear k1 k2 s1 s2 hbp
      revert HAP
      generalize encS p = S
      generalize encS q = T
      intro HAP
      by_cases hl : (T.size : Int) < S.size
      · go_wp2
        go_ret
        exact ⟨rfl, HB3.out⟩
      · have hl' : decide ((T.size : Int) < S.size) = false := by simpa using hl
        have hl2 : (S.size : Int) ≤ T.size := by omega
        by_cases he : T.extract 0 S.size = S
        · have hpq := HAP.out (ext_toList he)
          have hbe : ((T.extract 0 S.size).toList == S.toList) = true := by rw [txt_eq]; simp [he]
          have HC := hide (CS.out hpq K1.out w3 (H1.out.below HB3.out) (H2.out.below HB3.out))
          have HE := hide he
          clear hpq he CS
          go_wp2_with fail
          refine HC.out.mono ?_
          rintro e w4 ⟨rfl, hb4⟩
          have HB4 := hide (below_step HB3.out hb4)
          clear hb4
          go_wp2
          go_ret
          exact ⟨rfl, HB4.out⟩
        · have hbe : ((T.extract 0 S.size).toList == S.toList) = false := by rw [txt_eq]; simp [he]
          clear he
          go_wp2
          go_ret
          exact ⟨rfl, HB3.out⟩
    · have k2' : (chkP q != 0) = true := by simp [k2]
      clear k1 k2
      go_wp2
      go_ret
      exact ⟨rfl, HB3.out⟩
  · have k1' : (chkP p != 0) = true := by simp [k1]
    clear k1
    go_wp2
    go_ret
    exact ⟨rfl, HB3.out⟩

theorem apart_lift {w : World} (p : Pk) (aa ac : Option Addr) (ca cc : Nat) (h1 : PkIn w p aa ac) (q : Pk) (ab ad : Option Addr) (cb cd : Nat) (h2 : PkIn w q ab ad) (hm : Max w) :
    Calls Tryd.prog 3 #[pkV p aa ca ac cc, pkV q ab cb ad cd] w fun e w' => e = .returned (.bool true) ∧ Below w.heap.size w w' := apart_walk p q aa ac ab ad ca cc cb cd w hm h1 h2
end Go.Proofs.YtedlebkpdejhiabDoor
