/-
  dragomanref.SamePackets of two rows of the same packets: true; dragomanlaw.frameBegun.
-/
import Derived.Test.YtgmjdelgocbcaabDoorFrameFeed
import Derived.Test.YtgmjdelgocbcaabDoorPacketBegun
import Derived.Deep.RegionHeld3
namespace Go.Proofs.YtgmjdelgocbcaabDoor
open Go.RowKit Go.PlainAid

theorem lp_cells {V : World} {g1 o1 k c1 e1 : Nat} {p : Pk} {a1 d1 : Option Addr} (h : ∀ j u, (lpC ⟨p, a1, c1, d1, e1⟩)[j]? = some u → V.cell? ⟨g1, o1 + k * 14 + j, none⟩ = some u) : V.cell? ⟨g1, o1 + k * 14, none⟩ = some (.int .i64 p.kind) ∧ V.cell? ⟨g1, o1 + k * 14 + 1, none⟩ = some (.bool p.dup) ∧ V.cell? ⟨g1, o1 + k * 14 + 2, none⟩ = some (.bool p.retain) ∧ V.cell? ⟨g1, o1 + k * 14 + 3, none⟩ = some (.bool p.clean) ∧ V.cell? ⟨g1, o1 + k * 14 + 4, none⟩ = some (.bool p.session) ∧ V.cell? ⟨g1, o1 + k * 14 + 5, none⟩ = some (.int .i64 p.qos) ∧ V.cell? ⟨g1, o1 + k * 14 + 6, none⟩ = some (.int .i64 p.id) ∧ V.cell? ⟨g1, o1 + k * 14 + 7, none⟩ = some (.int .i64 p.keep) ∧ V.cell? ⟨g1, o1 + k * 14 + 8, none⟩ = some (.int .i64 p.code) ∧ V.cell? ⟨g1, o1 + k * 14 + 9, none⟩ = some (.string p.client) ∧ V.cell? ⟨g1, o1 + k * 14 + 10, none⟩ = some (.string p.topic) ∧ V.cell? ⟨g1, o1 + k * 14 + 11, none⟩ = some (.string p.payload) ∧ V.cell? ⟨g1, o1 + k * 14 + 12, none⟩ = some (.slice a1 p.asks.length c1) ∧ V.cell? ⟨g1, o1 + k * 14 + 13, none⟩ = some (.slice d1 p.codes.length e1) :=
  ⟨h 0 _ rfl, h 1 _ rfl, h 2 _ rfl, h 3 _ rfl, h 4 _ rfl, h 5 _ rfl, h 6 _ rfl, h 7 _ rfl, h 8 _ rfl, h 9 _ rfl, h 10 _ rfl, h 11 _ rfl, h 12 _ rfl, h 13 _ rfl⟩
theorem lp_both {V : World} {g1 o1 g2 o2 k c1 e1 c2 e2 : Nat} {p : Pk} {a1 d1 a2 d2 : Option Addr} (h : ∀ j u, (lpC ⟨p, a1, c1, d1, e1⟩)[j]? = some u → V.cell? ⟨g1, o1 + k * 14 + j, none⟩ = some u) (i : ∀ j u, (lpC ⟨p, a2, c2, d2, e2⟩)[j]? = some u → V.cell? ⟨g2, o2 + k * 14 + j, none⟩ = some u) : V.cell? ⟨g1, o1 + k * 14, none⟩ = some (.int .i64 p.kind) ∧ V.cell? ⟨g1, o1 + k * 14 + 1, none⟩ = some (.bool p.dup) ∧ V.cell? ⟨g1, o1 + k * 14 + 2, none⟩ = some (.bool p.retain) ∧ V.cell? ⟨g1, o1 + k * 14 + 3, none⟩ = some (.bool p.clean) ∧ V.cell? ⟨g1, o1 + k * 14 + 4, none⟩ = some (.bool p.session) ∧ V.cell? ⟨g1, o1 + k * 14 + 5, none⟩ = some (.int .i64 p.qos) ∧ V.cell? ⟨g1, o1 + k * 14 + 6, none⟩ = some (.int .i64 p.id) ∧ V.cell? ⟨g1, o1 + k * 14 + 7, none⟩ = some (.int .i64 p.keep) ∧ V.cell? ⟨g1, o1 + k * 14 + 8, none⟩ = some (.int .i64 p.code) ∧ V.cell? ⟨g1, o1 + k * 14 + 9, none⟩ = some (.string p.client) ∧ V.cell? ⟨g1, o1 + k * 14 + 10, none⟩ = some (.string p.topic) ∧ V.cell? ⟨g1, o1 + k * 14 + 11, none⟩ = some (.string p.payload) ∧ V.cell? ⟨g1, o1 + k * 14 + 12, none⟩ = some (.slice a1 p.asks.length c1) ∧ V.cell? ⟨g1, o1 + k * 14 + 13, none⟩ = some (.slice d1 p.codes.length e1) ∧ V.cell? ⟨g2, o2 + k * 14, none⟩ = some (.int .i64 p.kind) ∧ V.cell? ⟨g2, o2 + k * 14 + 1, none⟩ = some (.bool p.dup) ∧ V.cell? ⟨g2, o2 + k * 14 + 2, none⟩ = some (.bool p.retain) ∧ V.cell? ⟨g2, o2 + k * 14 + 3, none⟩ = some (.bool p.clean) ∧ V.cell? ⟨g2, o2 + k * 14 + 4, none⟩ = some (.bool p.session) ∧ V.cell? ⟨g2, o2 + k * 14 + 5, none⟩ = some (.int .i64 p.qos) ∧ V.cell? ⟨g2, o2 + k * 14 + 6, none⟩ = some (.int .i64 p.id) ∧ V.cell? ⟨g2, o2 + k * 14 + 7, none⟩ = some (.int .i64 p.keep) ∧ V.cell? ⟨g2, o2 + k * 14 + 8, none⟩ = some (.int .i64 p.code) ∧ V.cell? ⟨g2, o2 + k * 14 + 9, none⟩ = some (.string p.client) ∧ V.cell? ⟨g2, o2 + k * 14 + 10, none⟩ = some (.string p.topic) ∧ V.cell? ⟨g2, o2 + k * 14 + 11, none⟩ = some (.string p.payload) ∧ V.cell? ⟨g2, o2 + k * 14 + 12, none⟩ = some (.slice a2 p.asks.length c2) ∧ V.cell? ⟨g2, o2 + k * 14 + 13, none⟩ = some (.slice d2 p.codes.length e2) :=
  ⟨h 0 _ rfl, h 1 _ rfl, h 2 _ rfl, h 3 _ rfl, h 4 _ rfl, h 5 _ rfl, h 6 _ rfl, h 7 _ rfl, h 8 _ rfl, h 9 _ rfl, h 10 _ rfl, h 11 _ rfl, h 12 _ rfl, h 13 _ rfl, i 0 _ rfl, i 1 _ rfl, i 2 _ rfl, i 3 _ rfl, i 4 _ rfl, i 5 _ rfl, i 6 _ rfl, i 7 _ rfl, i 8 _ rfl, i 9 _ rfl, i 10 _ rfl, i 11 _ rfl, i 12 _ rfl, i 13 _ rfl⟩

set_option maxHeartbeats 8000000 in
set_option maxRecDepth 100000 in
theorem samePks_yes {N M : Nat} (A B : List Lp) (aa ab : Option Addr) (ca cb : Nat) (w : World) (h1 : Lies N w aa A) (h2 : Lies M w ab B) (hp : A.map Lp.p = B.map Lp.p) (hr : ∀ q ∈ A, q.p.asks.length ≤ 6 ∧ q.p.codes.length ≤ 6) (hn : A.length ≤ 900000000001) :
    Calls Tryd.prog 18 #[.slice aa A.length ca, .slice ab B.length cb] w fun e w' => e = .returned (.bool true) ∧ Below w.heap.size w w' := by
  have hl : B.length = A.length := by have := congrArg List.length hp; simpa using this.symm
  rw [hl]
  have H1 := hide h1
  have H2 := hide h2
  have HP := hide hp
  have HR := hide hr
  have HL := hide hl
  clear h1 h2 hp hr hl
  go_enter Tryd.func18, Tryd.ntmps18
  go_wp2
  go_loopw [5] (fun x wr => ∃ k : Nat, k ≤ A.length ∧ x = .int .i64 k ∧ Hid (Below w.heap.size w wr)) (fun x _ => A.length - (intOf x).toNat)
  case atStart => exact ⟨0, Nat.zero_le _, rfl, Below.refl _ _⟩
  case round =>
    obtain ⟨k, hk, rfl, HB⟩ := hrel
    by_cases hlt : k < A.length
    · have hltB : k < B.length := by rw [HL.out]; exact hlt
      obtain ⟨g1, o1, rfl, hg1, hc1⟩ := H1.out.at hlt
      obtain ⟨g2, o2, rfl, hg2, hc2⟩ := H2.out.at hltB
      have i1 := (H1.out.2 _ (List.getElem_mem hlt)).1
      have i2 := (H2.out.2 _ (List.getElem_mem hltB)).1
      have hpe : A[k].p = B[k].p := by
        have e : (A.map Lp.p)[k]? = (B.map Lp.p)[k]? := by rw [HP.out]
        simpa [hlt, hltB] using e
      have hrr := HR.out _ (List.getElem_mem hlt)
      have hlt' : (k : Int) < A.length := by omega
      clear H1 H2 HP HR HL
      generalize A[k] = q1 at *
      generalize B[k] = q2 at *
      obtain ⟨p, a1, c1, d1, e1⟩ := q1
      obtain ⟨p', a2, c2, d2, e2⟩ := q2
      simp only at hpe hrr i1 i2
      subst hpe
      have HK : Hid (∀ V, Below w.heap.size w V → V.cell? ⟨g1, o1 + k * 14, none⟩ = some (.int .i64 p.kind) ∧ V.cell? ⟨g1, o1 + k * 14 + 1, none⟩ = some (.bool p.dup) ∧ V.cell? ⟨g1, o1 + k * 14 + 2, none⟩ = some (.bool p.retain) ∧ V.cell? ⟨g1, o1 + k * 14 + 3, none⟩ = some (.bool p.clean) ∧ V.cell? ⟨g1, o1 + k * 14 + 4, none⟩ = some (.bool p.session) ∧ V.cell? ⟨g1, o1 + k * 14 + 5, none⟩ = some (.int .i64 p.qos) ∧ V.cell? ⟨g1, o1 + k * 14 + 6, none⟩ = some (.int .i64 p.id) ∧ V.cell? ⟨g1, o1 + k * 14 + 7, none⟩ = some (.int .i64 p.keep) ∧ V.cell? ⟨g1, o1 + k * 14 + 8, none⟩ = some (.int .i64 p.code) ∧ V.cell? ⟨g1, o1 + k * 14 + 9, none⟩ = some (.string p.client) ∧ V.cell? ⟨g1, o1 + k * 14 + 10, none⟩ = some (.string p.topic) ∧ V.cell? ⟨g1, o1 + k * 14 + 11, none⟩ = some (.string p.payload) ∧ V.cell? ⟨g1, o1 + k * 14 + 12, none⟩ = some (.slice a1 p.asks.length c1) ∧ V.cell? ⟨g1, o1 + k * 14 + 13, none⟩ = some (.slice d1 p.codes.length e1) ∧ V.cell? ⟨g2, o2 + k * 14, none⟩ = some (.int .i64 p.kind) ∧ V.cell? ⟨g2, o2 + k * 14 + 1, none⟩ = some (.bool p.dup) ∧ V.cell? ⟨g2, o2 + k * 14 + 2, none⟩ = some (.bool p.retain) ∧ V.cell? ⟨g2, o2 + k * 14 + 3, none⟩ = some (.bool p.clean) ∧ V.cell? ⟨g2, o2 + k * 14 + 4, none⟩ = some (.bool p.session) ∧ V.cell? ⟨g2, o2 + k * 14 + 5, none⟩ = some (.int .i64 p.qos) ∧ V.cell? ⟨g2, o2 + k * 14 + 6, none⟩ = some (.int .i64 p.id) ∧ V.cell? ⟨g2, o2 + k * 14 + 7, none⟩ = some (.int .i64 p.keep) ∧ V.cell? ⟨g2, o2 + k * 14 + 8, none⟩ = some (.int .i64 p.code) ∧ V.cell? ⟨g2, o2 + k * 14 + 9, none⟩ = some (.string p.client) ∧ V.cell? ⟨g2, o2 + k * 14 + 10, none⟩ = some (.string p.topic) ∧ V.cell? ⟨g2, o2 + k * 14 + 11, none⟩ = some (.string p.payload) ∧ V.cell? ⟨g2, o2 + k * 14 + 12, none⟩ = some (.slice a2 p.asks.length c2) ∧ V.cell? ⟨g2, o2 + k * 14 + 13, none⟩ = some (.slice d2 p.codes.length e2)) := fun V hV => lp_both (fun j u hu => (hV.cell (p := ⟨g1, _, none⟩) hg1).trans (hc1 j u hu)) (fun j u hu => (hV.cell (p := ⟨g2, _, none⟩) hg2).trans (hc2 j u hu))
      have CS : Hid (∀ V, Below w.heap.size w V → Calls Tryd.prog 10 #[pkV p a1 c1 d1 e1, pkV p a2 c2 d2 e2] V fun e w' => e = .returned (.bool true) ∧ Below V.heap.size V w') := fun V hV => same_yes p a1 d1 a2 d2 c1 e1 c2 e2 V (i1.below hV) (i2.below hV) hrr.1 hrr.2
      simp only [pkV] at CS
      clear hc1 hc2 hg1 hg2 i1 i2 hrr hltB
      go_wp2_with fail
      have HBw := HB
      have HB := hide (below_step HB.out (Below.drew (Below.refl _ _)))
      go_region_held3 (fun w' => w'.cell? ⟨g1, o1 + k * 14, none⟩ = some (.int .i64 p.kind) ∧ w'.cell? ⟨g1, o1 + k * 14 + 1, none⟩ = some (.bool p.dup) ∧ w'.cell? ⟨g1, o1 + k * 14 + 2, none⟩ = some (.bool p.retain) ∧ w'.cell? ⟨g1, o1 + k * 14 + 3, none⟩ = some (.bool p.clean) ∧ w'.cell? ⟨g1, o1 + k * 14 + 4, none⟩ = some (.bool p.session) ∧ w'.cell? ⟨g1, o1 + k * 14 + 5, none⟩ = some (.int .i64 p.qos) ∧ w'.cell? ⟨g1, o1 + k * 14 + 6, none⟩ = some (.int .i64 p.id) ∧ w'.cell? ⟨g1, o1 + k * 14 + 7, none⟩ = some (.int .i64 p.keep) ∧ w'.cell? ⟨g1, o1 + k * 14 + 8, none⟩ = some (.int .i64 p.code) ∧ w'.cell? ⟨g1, o1 + k * 14 + 9, none⟩ = some (.string p.client) ∧ w'.cell? ⟨g1, o1 + k * 14 + 10, none⟩ = some (.string p.topic) ∧ w'.cell? ⟨g1, o1 + k * 14 + 11, none⟩ = some (.string p.payload) ∧ w'.cell? ⟨g1, o1 + k * 14 + 12, none⟩ = some (.slice a1 p.asks.length c1) ∧ w'.cell? ⟨g1, o1 + k * 14 + 13, none⟩ = some (.slice d1 p.codes.length e1) ∧ w'.cell? ⟨g2, o2 + k * 14, none⟩ = some (.int .i64 p.kind) ∧ w'.cell? ⟨g2, o2 + k * 14 + 1, none⟩ = some (.bool p.dup) ∧ w'.cell? ⟨g2, o2 + k * 14 + 2, none⟩ = some (.bool p.retain) ∧ w'.cell? ⟨g2, o2 + k * 14 + 3, none⟩ = some (.bool p.clean) ∧ w'.cell? ⟨g2, o2 + k * 14 + 4, none⟩ = some (.bool p.session) ∧ w'.cell? ⟨g2, o2 + k * 14 + 5, none⟩ = some (.int .i64 p.qos) ∧ w'.cell? ⟨g2, o2 + k * 14 + 6, none⟩ = some (.int .i64 p.id) ∧ w'.cell? ⟨g2, o2 + k * 14 + 7, none⟩ = some (.int .i64 p.keep) ∧ w'.cell? ⟨g2, o2 + k * 14 + 8, none⟩ = some (.int .i64 p.code) ∧ w'.cell? ⟨g2, o2 + k * 14 + 9, none⟩ = some (.string p.client) ∧ w'.cell? ⟨g2, o2 + k * 14 + 10, none⟩ = some (.string p.topic) ∧ w'.cell? ⟨g2, o2 + k * 14 + 11, none⟩ = some (.string p.payload) ∧ w'.cell? ⟨g2, o2 + k * 14 + 12, none⟩ = some (.slice a2 p.asks.length c2) ∧ w'.cell? ⟨g2, o2 + k * 14 + 13, none⟩ = some (.slice d2 p.codes.length e2)) (first | with_reducible exact HK.out _ HB.out | with_reducible exact HK.out _ HBw.out | go_keep)
        (first
        | (go_at_call 10; refine (CS.out _ HB.out).mono ?_; rintro e ws ⟨rfl, hbs⟩; have HB := hide (below_step HB.out hbs); clear hbs)
        | fail)
      all_goals
        clear HK CS
        go_wp2
        go_round
        case rel => exact ⟨k + 1, by omega, by go_num, HB⟩
        case measure => simp [intOf]; omega
    · have hge : (A.length : Int) ≤ k := by omega
      go_wp2
      go_ret
      exact ⟨rfl, HB.out⟩

/-- a packet's bytes ahead of a stream -/
theorem fd_enc {p : Pk} (h : chkP p = 0) (hs : (encP p).size ≤ 600) (t : ByteArray) : fd (encP p ++ t) = (p :: (fd t).1, (fd t).2) := by
  obtain ⟨u, hl, _⟩ := enc_len h
  obtain ⟨u, hu, h0, h1, h4, hle, hv⟩ := lenOk_ok hl
  have hn0 : (encP p).size ≠ 0 := by omega
  have hE : szE (encP p) = 0 := by
    unfold szE
    rw [if_neg (by simp [h0]), if_neg (by omega), if_neg (by omega)]
  have hN := (sz_ok hE).2.2.2
  have hN' : (szN (encP p)).toNat = (encP p).size := by omega
  obtain ⟨d1, d2⟩ := dec_enc h
  have hhd : hd (encP p) = encP p := by unfold hd; rw [hN']; exact cutL _
  have htl : tl (encP p) = ⟨#[]⟩ := by
    unfold tl
    rw [hN']
    apply ByteArray.ext; apply Array.toList_inj.1
    simp
  obtain ⟨b1, b2, b3, b4⟩ := hd_app t hn0 hE
  rw [fd_step b4 b3 (by rw [b1, hhd]; exact d2), b1, b2, hhd, htl, d1, str_nil]
end Go.Proofs.YtgmjdelgocbcaabDoor
