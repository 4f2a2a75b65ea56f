/-
  dragomanref.SamePackets of two rows of the same packets: true; dragomanlaw.frameBegun.
-/
import Derived.Test.YtgmjdelgocbcaabDoorFrameFeed
import Derived.Test.YtgmjdelgocbcaabDoorPacketBegun
import Derived.Deep.RegionHeld3
namespace Go.Proofs.YtgmjdelgocbcaabDoor
open Go.RowKit Go.PlainAid

theorem lp_cells {V : World} {g1 o1 k c1 e1 : Nat} {p : Pk} {a1 d1 : Option Addr} (h : ∀ j u, (lpC ⟨p, a1, c1, d1, e1⟩)[j]? = some u → V.cell? ⟨g1, o1 + k * 14 + j, none⟩ = some u) : V.cell? ⟨g1, o1 + k * 14, none⟩ = some (.int .i64 p.kind) ∧ V.cell? ⟨g1, o1 + k * 14 + 1, none⟩ = some (.bool p.dup) ∧ V.cell? ⟨g1, o1 + k * 14 + 2, none⟩ = some (.bool p.retain) ∧ V.cell? ⟨g1, o1 + k * 14 + 3, none⟩ = some (.bool p.clean) ∧ V.cell? ⟨g1, o1 + k * 14 + 4, none⟩ = some (.bool p.session) ∧ V.cell? ⟨g1, o1 + k * 14 + 5, none⟩ = some (.int .i64 p.qos) ∧ V.cell? ⟨g1, o1 + k * 14 + 6, none⟩ = some (.int .i64 p.id) ∧ V.cell? ⟨g1, o1 + k * 14 + 7, none⟩ = some (.int .i64 p.keep) ∧ V.cell? ⟨g1, o1 + k * 14 + 8, none⟩ = some (.int .i64 p.code) ∧ V.cell? ⟨g1, o1 + k * 14 + 9, none⟩ = some (.string p.client) ∧ V.cell? ⟨g1, o1 + k * 14 + 10, none⟩ = some (.string p.topic) ∧ V.cell? ⟨g1, o1 + k * 14 + 11, none⟩ = some (.string p.payload) ∧ V.cell? ⟨g1, o1 + k * 14 + 12, none⟩ = some (.slice a1 p.asks.length c1) ∧ V.cell? ⟨g1, o1 + k * 14 + 13, none⟩ = some (.slice d1 p.codes.length e1) :=
  ⟨h 0 _ rfl, h 1 _ rfl, h 2 _ rfl, h 3 _ rfl, h 4 _ rfl, h 5 _ rfl, h 6 _ rfl, h 7 _ rfl, h 8 _ rfl, h 9 _ rfl, h 10 _ rfl, h 11 _ rfl, h 12 _ rfl, h 13 _ rfl⟩
theorem lp_both {V : World} {g1 o1 g2 o2 k c1 e1 c2 e2 : Nat} {p : Pk} {a1 d1 a2 d2 : Option Addr} (h : ∀ j u, (lpC ⟨p, a1, c1, d1, e1⟩)[j]? = some u → V.cell? ⟨g1, o1 + k * 14 + j, none⟩ = some u) (i : ∀ j u, (lpC ⟨p, a2, c2, d2, e2⟩)[j]? = some u → V.cell? ⟨g2, o2 + k * 14 + j, none⟩ = some u) : V.cell? ⟨g1, o1 + k * 14, none⟩ = some (.int .i64 p.kind) ∧ V.cell? ⟨g1, o1 + k * 14 + 1, none⟩ = some (.bool p.dup) ∧ V.cell? ⟨g1, o1 + k * 14 + 2, none⟩ = some (.bool p.retain) ∧ V.cell? ⟨g1, o1 + k * 14 + 3, none⟩ = some (.bool p.clean) ∧ V.cell? ⟨g1, o1 + k * 14 + 4, none⟩ = some (.bool p.session) ∧ V.cell? ⟨g1, o1 + k * 14 + 5, none⟩ = some (.int .i64 p.qos) ∧ V.cell? ⟨g1, o1 + k * 14 + 6, none⟩ = some (.int .i64 p.id) ∧ V.cell? ⟨g1, o1 + k * 14 + 7, none⟩ = some (.int .i64 p.keep) ∧ V.cell? ⟨g1, o1 + k * 14 + 8, none⟩ = some (.int .i64 p.code) ∧ V.cell? ⟨g1, o1 + k * 14 + 9, none⟩ = some (.string p.client) ∧ V.cell? ⟨g1, o1 + k * 14 + 10, none⟩ = some (.string p.topic) ∧ V.cell? ⟨g1, o1 + k * 14 + 11, none⟩ = some (.string p.payload) ∧ V.cell? ⟨g1, o1 + k * 14 + 12, none⟩ = some (.slice a1 p.asks.length c1) ∧ V.cell? ⟨g1, o1 + k * 14 + 13, none⟩ = some (.slice d1 p.codes.length e1) ∧ V.cell? ⟨g2, o2 + k * 14, none⟩ = some (.int .i64 p.kind) ∧ V.cell? ⟨g2, o2 + k * 14 + 1, none⟩ = some (.bool p.dup) ∧ V.cell? ⟨g2, o2 + k * 14 + 2, none⟩ = some (.bool p.retain) ∧ V.cell? ⟨g2, o2 + k * 14 + 3, none⟩ = some (.bool p.clean) ∧ V.cell? ⟨g2, o2 + k * 14 + 4, none⟩ = some (.bool p.session) ∧ V.cell? ⟨g2, o2 + k * 14 + 5, none⟩ = some (.int .i64 p.qos) ∧ V.cell? ⟨g2, o2 + k * 14 + 6, none⟩ = some (.int .i64 p.id) ∧ V.cell? ⟨g2, o2 + k * 14 + 7, none⟩ = some (.int .i64 p.keep) ∧ V.cell? ⟨g2, o2 + k * 14 + 8, none⟩ = some (.int .i64 p.code) ∧ V.cell? ⟨g2, o2 + k * 14 + 9, none⟩ = some (.string p.client) ∧ V.cell? ⟨g2, o2 + k * 14 + 10, none⟩ = some (.string p.topic) ∧ V.cell? ⟨g2, o2 + k * 14 + 11, none⟩ = some (.string p.payload) ∧ V.cell? ⟨g2, o2 + k * 14 + 12, none⟩ = some (.slice a2 p.asks.length c2) ∧ V.cell? ⟨g2, o2 + k * 14 + 13, none⟩ = some (.slice d2 p.codes.length e2) :=
  ⟨h 0 _ rfl, h 1 _ rfl, h 2 _ rfl, h 3 _ rfl, h 4 _ rfl, h 5 _ rfl, h 6 _ rfl, h 7 _ rfl, h 8 _ rfl, h 9 _ rfl, h 10 _ rfl, h 11 _ rfl, h 12 _ rfl, h 13 _ rfl, i 0 _ rfl, i 1 _ rfl, i 2 _ rfl, i 3 _ rfl, i 4 _ rfl, i 5 _ rfl, i 6 _ rfl, i 7 _ rfl, i 8 _ rfl, i 9 _ rfl, i 10 _ rfl, i 11 _ rfl, i 12 _ rfl, i 13 _ rfl⟩

set_option maxHeartbeats 8000000 in
set_option maxRecDepth 100000 in
theorem samePks_yes {N M : Nat} (A B : List Lp) (aa ab : Option Addr) (ca cb : Nat) (w : World) (h1 : Lies N w aa A) (h2 : Lies M w ab B) (hp : A.map Lp.p = B.map Lp.p) (hr : ∀ q ∈ A, q.p.asks.length ≤ 6 ∧ q.p.codes.length ≤ 6) (hn : A.length ≤ 900000000001) :
    Calls Tryd.prog 18 #[.slice aa A.length ca, .slice ab B.length cb] w fun e w' => e = .returned (.bool true) ∧ Below w.heap.size w w' := by
  have hl : B.length = A.length := by have := congrArg List.length hp; simpa using this.symm
  rw [hl]
  have H1 := hide h1
  have H2 := hide h2
  have HP := hide hp
  have HR := hide hr
  have HL := hide hl
  clear h1 h2 hp hr hl
  go_enter Tryd.func18, Tryd.ntmps18
  go_wp2
  go_loopw [5] (fun x wr => ∃ k : Nat, k ≤ A.length ∧ x = .int .i64 k ∧ Hid (Below w.heap.size w wr)) (fun x _ => A.length - (intOf x).toNat)
  case atStart => exact ⟨0, Nat.zero_le _, rfl, Below.refl _ _⟩
  case round =>
    obtain ⟨k, hk, rfl, HB⟩ := hrel
    by_cases hlt : k < A.length
    · have hltB : k < B.length := by rw [HL.out]; exact hlt
      obtain ⟨g1, o1, rfl, hg1, hc1⟩ := H1.out.at hlt
      obtain ⟨g2, o2, rfl, hg2, hc2⟩ := H2.out.at hltB
      have i1 := (H1.out.2 _ (List.getElem_mem hlt)).1
      have i2 := (H2.out.2 _ (List.getElem_mem hltB)).1
      have hpe : A[k].p = B[k].p := by
        have e : (A.map Lp.p)[k]? = (B.map Lp.p)[k]? := by rw [HP.out]
        simpa [hlt, hltB] using e
      have hrr := HR.out _ (List.getElem_mem hlt)
      have hlt' : (k : Int) < A.length := by omega
      clear H1 H2 HP HR HL
      generalize A[k] = q1 at *
      generalize B[k] = q2 at *
      obtain ⟨p, a1, c1, d1, e1⟩ := q1
      obtain ⟨p', a2, c2, d2, e2⟩ := q2
      simp only at hpe hrr i1 i2
      subst hpe
      have HK : Hid (∀ V, Below w.heap.size w V → V.cell? ⟨g1, o1 + k * 14, none⟩ = some (.int .i64 p.kind) ∧ V.cell? ⟨g1, o1 + k * 14 + 1, none⟩ = some (.bool p.dup) ∧ V.cell? ⟨g1, o1 + k * 14 + 2, none⟩ = some (.bool p.retain) ∧ V.cell? ⟨g1, o1 + k * 14 + 3, none⟩ = some (.bool p.clean) ∧ V.cell? ⟨g1, o1 + k * 14 + 4, none⟩ = some (.bool p.session) ∧ V.cell? ⟨g1, o1 + k * 14 + 5, none⟩ = some (.int .i64 p.qos) ∧ V.cell? ⟨g1, o1 + k * 14 + 6, none⟩ = some (.int .i64 p.id) ∧ V.cell? ⟨g1, o1 + k * 14 + 7, none⟩ = some (.int .i64 p.keep) ∧ V.cell? ⟨g1, o1 + k * 14 + 8, none⟩ = some (.int .i64 p.code) ∧ V.cell? ⟨g1, o1 + k * 14 + 9, none⟩ = some (.string p.client) ∧ V.cell? ⟨g1, o1 + k * 14 + 10, none⟩ = some (.string p.topic) ∧ V.cell? ⟨g1, o1 + k * 14 + 11, none⟩ = some (.string p.payload) ∧ V.cell? ⟨g1, o1 + k * 14 + 12, none⟩ = some (.slice a1 p.asks.length c1) ∧ V.cell? ⟨g1, o1 + k * 14 + 13, none⟩ = some (.slice d1 p.codes.length e1) ∧ V.cell? ⟨g2, o2 + k * 14, none⟩ = some (.int .i64 p.kind) ∧ V.cell? ⟨g2, o2 + k * 14 + 1, none⟩ = some (.bool p.dup) ∧ V.cell? ⟨g2, o2 + k * 14 + 2, none⟩ = some (.bool p.retain) ∧ V.cell? ⟨g2, o2 + k * 14 + 3, none⟩ = some (.bool p.clean) ∧ V.cell? ⟨g2, o2 + k * 14 + 4, none⟩ = some (.bool p.session) ∧ V.cell? ⟨g2, o2 + k * 14 + 5, none⟩ = some (.int .i64 p.qos) ∧ V.cell? ⟨g2, o2 + k * 14 + 6, none⟩ = some (.int .i64 p.id) ∧ V.cell? ⟨g2, o2 + k * 14 + 7, none⟩ = some (.int .i64 p.keep) ∧ V.cell? ⟨g2, o2 + k * 14 + 8, none⟩ = some (.int .i64 p.code) ∧ V.cell? ⟨g2, o2 + k * 14 + 9, none⟩ = some (.string p.client) ∧ V.cell? ⟨g2, o2 + k * 14 + 10, none⟩ = some (.string p.topic) ∧ V.cell? ⟨g2, o2 + k * 14 + 11, none⟩ = some (.string p.payload) ∧ V.cell? ⟨g2, o2 + k * 14 + 12, none⟩ = some (.slice a2 p.asks.length c2) ∧ V.cell? ⟨g2, o2 + k * 14 + 13, none⟩ = some (.slice d2 p.codes.length e2)) := fun V hV => lp_both (fun j u hu => (hV.cell (p := ⟨g1, _, none⟩) hg1).trans (hc1 j u hu)) (fun j u hu => (hV.cell (p := ⟨g2, _, none⟩) hg2).trans (hc2 j u hu))
      have CS : Hid (∀ V, Below w.heap.size w V → Calls Tryd.prog 10 #[pkV p a1 c1 d1 e1, pkV p a2 c2 d2 e2] V fun e w' => e = .returned (.bool true) ∧ Below V.heap.size V w') := fun V hV => same_yes p a1 d1 a2 d2 c1 e1 c2 e2 V (i1.below hV) (i2.below hV) hrr.1 hrr.2
      simp only [pkV] at CS
      clear hc1 hc2 hg1 hg2 i1 i2 hrr hltB
      go_wp2_with fail
      have HBw := HB
      have HB := hide (below_step HB.out (Below.drew (Below.refl _ _)))
      go_region_held3 (fun w' => w'.cell? ⟨g1, o1 + k * 14, none⟩ = some (.int .i64 p.kind) ∧ w'.cell? ⟨g1, o1 + k * 14 + 1, none⟩ = some (.bool p.dup) ∧ w'.cell? ⟨g1, o1 + k * 14 + 2, none⟩ = some (.bool p.retain) ∧ w'.cell? ⟨g1, o1 + k * 14 + 3, none⟩ = some (.bool p.clean) ∧ w'.cell? ⟨g1, o1 + k * 14 + 4, none⟩ = some (.bool p.session) ∧ w'.cell? ⟨g1, o1 + k * 14 + 5, none⟩ = some (.int .i64 p.qos) ∧ w'.cell? ⟨g1, o1 + k * 14 + 6, none⟩ = some (.int .i64 p.id) ∧ w'.cell? ⟨g1, o1 + k * 14 + 7, none⟩ = some (.int .i64 p.keep) ∧ w'.cell? ⟨g1, o1 + k * 14 + 8, none⟩ = some (.int .i64 p.code) ∧ w'.cell? ⟨g1, o1 + k * 14 + 9, none⟩ = some (.string p.client) ∧ w'.cell? ⟨g1, o1 + k * 14 + 10, none⟩ = some (.string p.topic) ∧ w'.cell? ⟨g1, o1 + k * 14 + 11, none⟩ = some (.string p.payload) ∧ w'.cell? ⟨g1, o1 + k * 14 + 12, none⟩ = some (.slice a1 p.asks.length c1) ∧ w'.cell? ⟨g1, o1 + k * 14 + 13, none⟩ = some (.slice d1 p.codes.length e1) ∧ w'.cell? ⟨g2, o2 + k * 14, none⟩ = some (.int .i64 p.kind) ∧ w'.cell? ⟨g2, o2 + k * 14 + 1, none⟩ = some (.bool p.dup) ∧ w'.cell? ⟨g2, o2 + k * 14 + 2, none⟩ = some (.bool p.retain) ∧ w'.cell? ⟨g2, o2 + k * 14 + 3, none⟩ = some (.bool p.clean) ∧ w'.cell? ⟨g2, o2 + k * 14 + 4, none⟩ = some (.bool p.session) ∧ w'.cell? ⟨g2, o2 + k * 14 + 5, none⟩ = some (.int .i64 p.qos) ∧ w'.cell? ⟨g2, o2 + k * 14 + 6, none⟩ = some (.int .i64 p.id) ∧ w'.cell? ⟨g2, o2 + k * 14 + 7, none⟩ = some (.int .i64 p.keep) ∧ w'.cell? ⟨g2, o2 + k * 14 + 8, none⟩ = some (.int .i64 p.code) ∧ w'.cell? ⟨g2, o2 + k * 14 + 9, none⟩ = some (.string p.client) ∧ w'.cell? ⟨g2, o2 + k * 14 + 10, none⟩ = some (.string p.topic) ∧ w'.cell? ⟨g2, o2 + k * 14 + 11, none⟩ = some (.string p.payload) ∧ w'.cell? ⟨g2, o2 + k * 14 + 12, none⟩ = some (.slice a2 p.asks.length c2) ∧ w'.cell? ⟨g2, o2 + k * 14 + 13, none⟩ = some (.slice d2 p.codes.length e2)) (first | with_reducible exact HK.out _ HB.out | with_reducible exact HK.out _ HBw.out | go_keep)
        (first
        | (go_at_call 10; refine (CS.out _ HB.out).mono ?_; rintro e ws ⟨rfl, hbs⟩; have HB := hide (below_step HB.out hbs); clear hbs)
        | fail)
      all_goals
        clear HK CS
        go_wp2
        go_round
        case rel => exact ⟨k + 1, by omega, by go_num, HB⟩
        case measure => simp [intOf]; omega
    · have hge : (A.length : Int) ≤ k := by omega
      go_wp2
      go_ret
      exact ⟨rfl, HB.out⟩

/-- a packet's bytes ahead of a stream -/
theorem fd_enc {p : Pk} (h : chkP p = 0) (hs : (encP p).size ≤ 600) (t : ByteArray) : fd (encP p ++ t) = (p :: (fd t).1, (fd t).2) := by
  obtain ⟨u, hl, _⟩ := enc_len h
  obtain ⟨u, hu, h0, h1, h4, hle, hv⟩ := lenOk_ok hl
  have hn0 : (encP p).size ≠ 0 := by omega
  have hE : szE (encP p) = 0 := by
    unfold szE
    rw [if_neg (by simp [h0]), if_neg (by omega), if_neg (by omega)]
  have hN := (sz_ok hE).2.2.2
  have hN' : (szN (encP p)).toNat = (encP p).size := by omega
  obtain ⟨d1, d2⟩ := dec_enc h
  have hhd : hd (encP p) = encP p := by unfold hd; rw [hN']; exact cutL _
  have htl : tl (encP p) = ⟨#[]⟩ := by
    unfold tl
    rw [hN']
    apply ByteArray.ext; apply Array.toList_inj.1
    simp
  obtain ⟨b1, b2, b3, b4⟩ := hd_app t hn0 hE
  rw [fd_step b4 b3 (by rw [b1, hhd]; exact d2), b1, b2, hhd, htl, d1, str_nil]
end Go.Proofs.YtgmjdelgocbcaabDoor
/-
  dragomanlaw.frameBegun answers true.
-/
namespace Go.Proofs.YtgmjdelgocbcaabDoor
open Go.RowKit Go.PlainAid

theorem begun_fd : fd (((⟨#[50, 9, 0, 3, 97, 47, 98, 0, 10, 104, 105]⟩ : ByteArray).extract 0 3) ++ ((⟨#[50, 9, 0, 3, 97, 47, 98, 0, 10, 104, 105]⟩ : ByteArray).extract 3 11 ++ ⟨#[50, 9, 0, 3, 97, 47, 98, 0, 10, 104, 105]⟩ ++ ⟨#[48]⟩)) = ([pubPk, pubPk], ⟨#[48]⟩, 0) := by
  have e : ((⟨#[50, 9, 0, 3, 97, 47, 98, 0, 10, 104, 105]⟩ : ByteArray).extract 0 3) ++ ((⟨#[50, 9, 0, 3, 97, 47, 98, 0, 10, 104, 105]⟩ : ByteArray).extract 3 11 ++ ⟨#[50, 9, 0, 3, 97, 47, 98, 0, 10, 104, 105]⟩ ++ ⟨#[48]⟩) = encP pubPk ++ (encP pubPk ++ ⟨#[48]⟩) := by rw [pub_enc]; decide +kernel
  have h6 : (encP pubPk).size ≤ 600 := by rw [pub_enc]; decide +kernel
  rw [e, fd_enc pub_chk h6, fd_enc pub_chk h6, fd_short (s := ⟨#[48]⟩) (by decide) (by decide +kernel)]
def pubs : List Lp := [⟨pubPk, none, 0, none, 0⟩, ⟨pubPk, none, 0, none, 0⟩]
theorem pubs_lie (W : World) (b : Nat) (hb : b = W.heap.size) : Lies 0 (W.alloc (.cells #[.int .i64 3, .bool false, .bool false, .bool false, .bool false, .int .i64 1, .int .i64 10, .int .i64 0, .int .i64 0, .string ⟨#[]⟩, .string ⟨#[97, 47, 98]⟩, .string ⟨#[104, 105]⟩, .slice none 0 0, .slice none 0 0, .int .i64 3, .bool false, .bool false, .bool false, .bool false, .int .i64 1, .int .i64 10, .int .i64 0, .int .i64 0, .string ⟨#[]⟩, .string ⟨#[97, 47, 98]⟩, .string ⟨#[104, 105]⟩, .slice none 0 0, .slice none 0 0] 25)) (some ⟨b, 0, none⟩) pubs := by
  subst hb
  refine ⟨.inr ⟨W.heap.size, 0, rfl, by simp, fun j u hu => ?_⟩, fun q hq => ?_⟩
  · rw [Nat.zero_add, Lib.cell_of_heap (Go.heap_alloc_new W _)]
    rw [← hu]
    simp [lpCells, pubs, lpC, pubPk]
  · simp only [pubs, List.mem_cons, List.not_mem_nil, or_false, or_self] at hq
    subst hq
    exact ⟨⟨.inl rfl, .inl rfl⟩, .inl rfl, .inl rfl⟩

set_option maxHeartbeats 8000000 in
set_option maxRecDepth 100000 in
theorem frameBegun_yes (w : World) (hm : Max w) : Calls Tryd.prog 17 #[] w fun e w' => e = .returned (.bool true) ∧ Below w.heap.size w w' := by
  have HM := hide hm
  have CF : Hid (∀ V, Max V → Calls Tryd.prog 16 #[.string ((⟨#[50, 9, 0, 3, 97, 47, 98, 0, 10, 104, 105]⟩ : ByteArray).extract 0 3), .string ((⟨#[50, 9, 0, 3, 97, 47, 98, 0, 10, 104, 105]⟩ : ByteArray).extract 3 11 ++ ⟨#[50, 9, 0, 3, 97, 47, 98, 0, 10, 104, 105]⟩ ++ ⟨#[48]⟩)] V (FeedPost V ([pubPk, pubPk], ⟨#[48]⟩, 0))) := fun V hV => by
    have := feed_any ((⟨#[50, 9, 0, 3, 97, 47, 98, 0, 10, 104, 105]⟩ : ByteArray).extract 0 3) ((⟨#[50, 9, 0, 3, 97, 47, 98, 0, 10, 104, 105]⟩ : ByteArray).extract 3 11 ++ ⟨#[50, 9, 0, 3, 97, 47, 98, 0, 10, 104, 105]⟩ ++ ⟨#[48]⟩) V (by decide +kernel) hV
    rwa [begun_fd] at this
  clear hm
  go_enter Tryd.func17, Tryd.ntmps17
  go_wp2_with fail
  refine (pub_any _).mono ?_
  rintro e w1 ⟨rfl, hb1⟩
  have HB := hide hb1
  clear hb1
  have HE := hide (pub_encode w1 (HM.out.below HB.out))
  go_wp2_with fail
  refine HE.out.mono ?_
  rintro e w2 ⟨rfl, hb⟩
  have HB := hide (below_step HB.out hb)
  clear hb HE
  go_wp2_with fail
  have HB := hide (below_step HB.out (Below.drew (Below.refl _ _)))
  go_region_held3 (fun _ => True) (exact trivial)
    (first
    | (go_at_call 16; refine (CF.out _ (HM.out.below HB.out)).mono ?_; rintro e w3 ⟨ao, co, Q, rfl, hQ, hL, hb⟩; have HB := hide (below_step HB.out hb); have HL := hide hL; have HQ := hide hQ; clear hb hL hQ)
    | fail)
  have hq2 : Q.length = 2 := by have := congrArg List.length HQ.out; simpa using this
  clear CF
  go_wp2_with fail
  refine (pub_any _).mono ?_
  rintro e w4 ⟨rfl, hb⟩
  simp only [pkV, pubPk, List.length_nil]
  have HB := hide (below_step HB.out hb)
  have HL := hide (HL.out.step hb)
  clear hb
  go_wp2_with fail
  refine (pub_any _).mono ?_
  rintro e w5 ⟨rfl, hb⟩
  simp only [pkV, pubPk, List.length_nil]
  have HB := hide (below_step HB.out hb)
  have HL := hide (HL.out.step hb)
  clear hb
  have HB6 := hide (HB.out.alloc HB.out.size (.cells #[.int .i64 3, .bool false, .bool false, .bool false, .bool false, .int .i64 1, .int .i64 10, .int .i64 0, .int .i64 0, .string ⟨#[]⟩, .string ⟨#[97, 47, 98]⟩, .string ⟨#[104, 105]⟩, .slice none 0 0, .slice none 0 0, .int .i64 3, .bool false, .bool false, .bool false, .bool false, .int .i64 1, .int .i64 10, .int .i64 0, .int .i64 0, .string ⟨#[]⟩, .string ⟨#[97, 47, 98]⟩, .string ⟨#[104, 105]⟩, .slice none 0 0, .slice none 0 0] 25))
  have HC : Hid (Calls Tryd.prog 18 #[.slice ao Q.length co, .slice (some ⟨w5.heap.size, 0, none⟩) 2 2] (w5.alloc (.cells #[.int .i64 3, .bool false, .bool false, .bool false, .bool false, .int .i64 1, .int .i64 10, .int .i64 0, .int .i64 0, .string ⟨#[]⟩, .string ⟨#[97, 47, 98]⟩, .string ⟨#[104, 105]⟩, .slice none 0 0, .slice none 0 0, .int .i64 3, .bool false, .bool false, .bool false, .bool false, .int .i64 1, .int .i64 10, .int .i64 0, .int .i64 0, .string ⟨#[]⟩, .string ⟨#[97, 47, 98]⟩, .string ⟨#[104, 105]⟩, .slice none 0 0, .slice none 0 0] 25)) fun e w' => e = .returned (.bool true) ∧ Below (w5.alloc (.cells #[.int .i64 3, .bool false, .bool false, .bool false, .bool false, .int .i64 1, .int .i64 10, .int .i64 0, .int .i64 0, .string ⟨#[]⟩, .string ⟨#[97, 47, 98]⟩, .string ⟨#[104, 105]⟩, .slice none 0 0, .slice none 0 0, .int .i64 3, .bool false, .bool false, .bool false, .bool false, .int .i64 1, .int .i64 10, .int .i64 0, .int .i64 0, .string ⟨#[]⟩, .string ⟨#[97, 47, 98]⟩, .string ⟨#[104, 105]⟩, .slice none 0 0, .slice none 0 0] 25)).heap.size (w5.alloc (.cells #[.int .i64 3, .bool false, .bool false, .bool false, .bool false, .int .i64 1, .int .i64 10, .int .i64 0, .int .i64 0, .string ⟨#[]⟩, .string ⟨#[97, 47, 98]⟩, .string ⟨#[104, 105]⟩, .slice none 0 0, .slice none 0 0, .int .i64 3, .bool false, .bool false, .bool false, .bool false, .int .i64 1, .int .i64 10, .int .i64 0, .int .i64 0, .string ⟨#[]⟩, .string ⟨#[97, 47, 98]⟩, .string ⟨#[104, 105]⟩, .slice none 0 0, .slice none 0 0] 25)) w') :=
    samePks_yes Q pubs ao (some ⟨w5.heap.size, 0, none⟩) co 2 _ (HL.out.step ((Below.refl _ w5).alloc (Nat.le_refl _) _)) (pubs_lie w5 _ rfl) HQ.out (fun q hq => by
      have : q.p ∈ Q.map Lp.p := List.mem_map_of_mem hq
      rw [HQ.out] at this
      simp only [List.mem_cons, List.not_mem_nil, or_false, or_self] at this
      rw [this]
      decide) (by omega)
  rw [hq2] at HC
  go_wp2_with fail
  refine HC.out.mono ?_
  rintro e w6 ⟨rfl, hb⟩
  have HB7 := hide (below_step HB6.out hb)
  clear hb HC HB6 HL HQ
  go_wp2
  go_ret
  exact ⟨rfl, HB7.out⟩
end Go.Proofs.YtgmjdelgocbcaabDoor
/-
  A stream in three pieces (its maths); rows of packets behind rows of packets.
-/
namespace Go.Proofs.YtgmjdelgocbcaabDoor
open Go.RowKit Go.PlainAid

/-- a stream in three pieces -/
theorem fd_three (s1 s2 s3 : ByteArray) :
    ((fd s1).2.2 ≠ 0 → fd (s1 ++ s2 ++ s3) = fd s1) ∧
    ((fd s1).2.2 = 0 → (fd ((fd s1).2.1 ++ s2)).2.2 ≠ 0 → fd (s1 ++ s2 ++ s3) = ((fd s1).1 ++ (fd ((fd s1).2.1 ++ s2)).1, (fd ((fd s1).2.1 ++ s2)).2)) ∧
    ((fd s1).2.2 = 0 → (fd ((fd s1).2.1 ++ s2)).2.2 = 0 → fd (s1 ++ s2 ++ s3) = ((fd s1).1 ++ (fd ((fd s1).2.1 ++ s2)).1 ++ (fd ((fd ((fd s1).2.1 ++ s2)).2.1 ++ s3)).1, (fd ((fd ((fd s1).2.1 ++ s2)).2.1 ++ s3)).2)) := by
  refine ⟨fun h => ?_, fun h h2 => ?_, fun h h2 => ?_⟩
  · rw [ByteArray.append_assoc]; exact fd_err _ s1 (s2 ++ s3) (Nat.le_refl _) h
  · have e := fd_more _ s1 s2 (Nat.le_refl _) h
    rw [fd_err _ (s1 ++ s2) s3 (Nat.le_refl _) (by rw [e]; exact h2), e]
  · have e := fd_more _ s1 s2 (Nat.le_refl _) h
    rw [fd_more _ (s1 ++ s2) s3 (Nat.le_refl _) (by rw [e]; exact h2), e]
theorem three_cuts (s : ByteArray) (c m : Nat) (h : c + m ≤ s.size) : s = s.extract 0 c ++ s.extract c (c + m) ++ s.extract (c + m) s.size := by
  apply ByteArray.ext; apply Array.toList_inj.1
  have e : s.data.toList.length = s.size := by simp
  simp only [ByteArray.data_extract, Array.toList_extract, List.extract_eq_take_drop, ByteArray.data_append, Array.toList_append, List.drop_zero, Nat.sub_zero]
  rw [show c + m - c = m by omega, List.take_of_length_le (l := List.drop (c + m) s.data.toList) (by rw [List.length_drop]; omega)]
  rw [List.append_assoc, ← List.drop_drop, List.take_append_drop, List.take_append_drop]

theorem pappend_zero (W : World) (av : Option Addr) (n cv : Nat) (hv : (av = none ∧ n = 0 ∧ cv = 0) ∨ (∃ g, av = some ⟨g, 0, none⟩ ∧ n ≤ cv)) (ao : Option Addr) (co : Nat) :
    (Builtin.append_ #[36, 36] 36 #[.slice av n cv, .slice ao 0 co]).run Tryd.prog W = .ok (.slice av n cv) W := by
  obtain ⟨i0, hi, hz0, hz1, hz2⟩ := pinfo
  rcases hv with ⟨rfl, rfl, rfl⟩ | ⟨g, rfl, h⟩
  · cases ao <;> simp [Builtin.append_, run_underlying Tryd.underlying36, sizeOf, typeInfo, hi, Builtin.lenOf, Builtin.firstCells, loadCells, loadCellsFrom]
  · cases ao <;> simp [Builtin.append_, run_underlying Tryd.underlying36, sizeOf, typeInfo, hi, Builtin.lenOf, Builtin.firstCells, loadCells, loadCellsFrom, storeCells, h]
theorem prow_form {w : World} {B : Nat} {ao : Option Addr} {n k co : Nat} {xs : List Value} (h : w.ownsRow B 25 14 (.slice ao n co) k xs) : (ao = none ∧ n = 0 ∧ co = 0) ∨ (∃ g, ao = some ⟨g, 0, none⟩ ∧ n ≤ co) := by
  rcases h.2 with ⟨hv, h0⟩ | ⟨g, cap, cur, hv, hb, hg, hnc, _⟩
  · injection hv with ha hn hc
    exact .inl ⟨ha, hn, hc⟩
  · injection hv with ha hn hc
    subst hc hn
    exact .inr ⟨g, ha, hnc⟩
section
variable {ops : Array Oper} {rest : List Oper} {o : Oper} {a : Act} {Q : Exit → Act → World → Prop} {N M : Nat} {w W : World} {L : List Lp}
/-- a row behind a row, whatever its length (it may be nothing); the operation is wanted -/
theorem wpPs (hw : Region.wanted o (yielded ops a.tmps) = true) (hty : o.type = 36) (x y : Operand) (ho : o.op = .call { callee := .builtin .append, args := #[x, y], argTypes := #[36, 36] })
    (av : Option Addr) (n cv : Nat) (hx : a.eval x = .slice av n cv) (ad : Option Addr) (m cd : Nat) (hy : a.eval y = .slice ad m cd) (D : List Lp) (hm : D.length = m) (hn : L.length = n) (k : Nat) (hk : n + m = k) (hI : Fr N w L (.slice av n cv) W) (hD : Lies M W ad D) (hF : ∀ q ∈ D, Far N W (Value.slice av n cv).ownBlock q) (hL : k ≤ 900000000001)
    (h : ∀ g' c' W', Fr N w (L ++ D) (.slice g' k c') W' → W.heap.size ≤ W'.heap.size → wpList Tryd.prog ops Q rest (a.put o.dst (.slice g' k c')) W') :
    wpList Tryd.prog ops Q (o :: rest) a W := by
  refine wpList_step fun K hK => ?_
  rw [if_pos hw]
  subst hm hn hk
  rcases hD.1 with rfl | ⟨g, o0, rfl, hg, hc⟩
  · have hrun := pappend_zero W av L.length cv (prow_form hI.row) ad cd
    unfold Oper.wp execOp
    simp only [ho, resolve, invoke, builtin, Sem.run_bind, Sem.run_pure, Result.andThen_ok, List.map_toArray, List.map_cons, List.map_nil, hx, hy, hty, List.length_nil, hrun]
    have := h av cv W (by rw [List.append_nil]; exact hI) (Nat.le_refl _)
    exact hK _ _ this
  · by_cases h0 : D = []
    · subst h0
      have hrun := pappend_zero W av L.length cv (prow_form hI.row) (some ⟨g, o0, none⟩) cd
      unfold Oper.wp execOp
      simp only [ho, resolve, invoke, builtin, Sem.run_bind, Sem.run_pure, Result.andThen_ok, List.map_toArray, List.map_cons, List.map_nil, hx, hy, hty, List.length_nil, hrun]
      have := h av cv W (by rw [List.append_nil]; exact hI) (Nat.le_refl _)
      exact hK _ _ this
    · obtain ⟨i0, hi, hz0, hz1, hz2⟩ := pinfo
      have hp : 0 < D.length := List.length_pos_iff.2 h0
      refine wp_append_lies W x y 36 ho w.heap.size 25 i0 _ 14 144 Tryd.underlying36 hi hz0 hz1 hz2 rfl (by decide) (.slice av L.length cv) L.length _ hx hI.row ⟨g, o0, none⟩ D.length cd (lpCells D) hy (lpCells_len D) (fun j u hu => by rw [padd_plain]; exact hc j u hu) (lpCells_cell D) hp (by unfold maxLen; omega) (by omega) hI.bel.size _ rfl ?_
      intro g' cap W' hown hgrow hat hlt
      exact hK _ _ (h _ _ W' (hI.grown hF hgrow hat hown) hgrow.size)
end
theorem Far.of_old {Wb W : World} {ob : Option Nat} {q : Lp} (h : PkIn Wb q.p q.aa q.ac) (hb : Below Wb.heap.size Wb W) (hob : ∀ k, ob = some k → Wb.heap.size ≤ k) : Far 0 W ob q := by
  refine ⟨h.below hb, ?_, ?_⟩
  · rcases h.1 with e | ⟨b, o, ha, hlt, _⟩
    · exact .inl e
    · exact .inr ⟨b, o, ha, Nat.zero_le _, fun e => by have := hob b e; omega⟩
  · rcases h.2 with e | ⟨b, o, ha, hlt, _⟩
    · exact .inl e
    · exact .inr ⟨b, o, ha, Nat.zero_le _, fun e => by have := hob b e; omega⟩
theorem fr_new (W : World) : Fr 0 W [] (.slice (some ⟨W.heap.size, 0, none⟩) 0 0) (W.alloc (.cells #[] 25)) :=
  ⟨(Below.refl _ _).alloc (Nat.le_refl _) _, World.ownsRow_lit (base := W.heap.size) (e := 25) (size := 14) W #[] 0 (Nat.le_refl _) (by unfold maxLen; omega) rfl, fun q hq => by cases hq⟩
theorem fr_ge {N : Nat} {w W : World} {L : List Lp} {v : Value} (h : Fr N w L v W) : ∀ k, v.ownBlock = some k → w.heap.size ≤ k := fun _ e => (pown_at h.row e).1
theorem fr_lt {N : Nat} {w W : World} {L : List Lp} {v : Value} (h : Fr N w L v W) : ∀ k, v.ownBlock = some k → k < W.heap.size := fun _ e => pown_lt h.row e
end Go.Proofs.YtgmjdelgocbcaabDoor
