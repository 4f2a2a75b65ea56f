/-
  packet.Decode: what it answers.
-/
import Derived.Test.YtnjdpibgfbbkcabGreatDoorPacketRead
import Derived.Test.YtnjdpibgfbbkcabGreatDoorWriterKinds
namespace Go.Proofs.YtnjdpibgfbbkcabGreatDoor
open Go.RowKit Go.PlainAid Go.Deep

theorem read_any (s : ByteArray) (w : World) (hs : s.size ≤ maxLen) :
    Calls Tryz.prog 20 #[.string s] w fun e w' => ∃ aa ca ac cc, e = .returned (.tuple #[pkV (rdP s) aa ca ac cc, .bool (rdB s)]) ∧ PkInB w.heap.size w' (rdP s) aa ac ∧ Below w.heap.size w w' := by
  cases h : lenOk s with
  | false =>
    have h1 : rdP s = zeroPk := by unfold rdP; rw [if_neg (by simp [h])]
    have h2 : rdB s = false := by unfold rdB; rw [h]; rfl
    rw [h1, h2]
    exact (read_no s w hs h).mono fun e w' x => ⟨none, 0, none, 0, x.1, ⟨zero_in w', .inl rfl, .inl rfl⟩, x.2⟩
  | true =>
    obtain ⟨u, hu, he, hu1, hu4, hus, hv⟩ := lenOk_ok h
    refine read_yes s w h ?_
    have hg : (glR s 1).1 ≤ 268435455 := by
      have h1 := he
      unfold glR at h1 ⊢
      split at h1
      · simp at h1
      · rename_i h2
        rw [if_neg h2]
        exact glGo_le s _ h1
    omega

/-- what Decode answers -/
def decE (s : ByteArray) : Int := if rdB s = false then 1 else chkP (rdP s)
def decP (s : ByteArray) : Pk := if decE s = 0 then rdP s else zeroPk

theorem dec_zero {w W3 W' : World} (hb : Below w.heap.size w W3) (hs : w.heap.size ≤ W3.heap.size) (hk : Kx w.heap.size w.heap.size W3 W') : PkInB w.heap.size W' zeroPk none none ∧ Below w.heap.size w W' :=
  ⟨⟨zero_in W', .inl rfl, .inl rfl⟩, hb.trans (hk.below hs (Nat.le_refl _) (Nat.le_refl _))⟩

set_option maxHeartbeats 8000000 in
theorem decode_bad (s : ByteArray) (w : World) (hs : s.size ≤ maxLen) (h : rdB s = false) :
    Calls Tryz.prog 11 #[.string s] w fun e w' => ∃ aa ca ac cc, e = .returned (.tuple #[pkV (decP s) aa ca ac cc, .int .i64 (decE s)]) ∧ PkInB w.heap.size w' (decP s) aa ac ∧ Below w.heap.size w w' := by
  have CR := hide (fun W => read_any s W hs)
  have h1 : decE s = 1 := by unfold decE; rw [if_pos h]
  have h2 : decP s = zeroPk := by unfold decP; rw [h1]; rfl
  rw [h1, h2]
  rw [h] at CR
  clear h h1 h2
  revert CR
  generalize rdP s = q
  intro CR
  go_enter Tryz.func11, Tryz.ntmps11
  go_wp2_with fail
  refine (CR.out _).mono ?_
  rintro e w1 ⟨aa, ca, ac, cc, rfl, hin, hb1⟩
  have HZ : Hid (PAt w.heap.size zeroPk (.slice none 0 0) (.slice none 0 0) w1) := by
    show _ = _; rw [hb1.block w.heap.size (by simp)]; exact Go.heap_alloc_new w _
  have hs1 := hb1.size
  simp only [World.size_alloc] at hs1
  have HIN : Hid (PkInB (w.heap.size + 1) w1 q aa ac) := by have := hin; simp only [World.size_alloc] at this; exact this
  have HB1 := hide (below_step ((Below.refl w.heap.size w).alloc (Nat.le_refl _) _) hb1)
  clear hin hb1
  simp only [pkV]
  go_upto_region 2 with fail
  have HP3 : Hid (PAt w1.heap.size q (.slice aa q.asks.length ca) (.slice ac q.codes.length cc) (w1.alloc (.cells #[.int .i64 q.kind, .bool q.dup, .bool q.retain, .bool q.clean, .bool q.session, .int .i64 q.qos, .int .i64 q.id, .int .i64 q.keep, .int .i64 q.code, .string q.client, .string q.topic, .string q.payload, .slice aa q.asks.length ca, .slice ac q.codes.length cc] 35))) := Go.heap_alloc_new w1 _
  have HBB : Hid (Below w1.heap.size w1 (w1.alloc (.cells #[.int .i64 q.kind, .bool q.dup, .bool q.retain, .bool q.clean, .bool q.session, .int .i64 q.qos, .int .i64 q.id, .int .i64 q.keep, .int .i64 q.code, .string q.client, .string q.topic, .string q.payload, .slice aa q.asks.length ca, .slice ac q.codes.length cc] 35))) := (Below.refl _ _).alloc (Nat.le_refl _) _
  revert HP3 HBB
  generalize w1.alloc (.cells #[.int .i64 q.kind, .bool q.dup, .bool q.retain, .bool q.clean, .bool q.session, .int .i64 q.qos, .int .i64 q.id, .int .i64 q.keep, .int .i64 q.code, .string q.client, .string q.topic, .string q.payload, .slice aa q.asks.length ca, .slice ac q.codes.length cc] 35) = W3
  intro HP3 HBB
  have HZ3 : Hid (PAt w.heap.size zeroPk (.slice none 0 0) (.slice none 0 0) W3) := by have := HZ.out; unfold PAt at *; show _ = _; rw [HBB.out.block _ (by omega)]; exact this
  have HIN3 := hide (HIN.out.keep (Nat.le_refl _) HBB.out.size (fun k _ hk => HBB.out.block k hk))
  have hsb := HBB.out.size
  have HB3 := hide (HB1.out.trans (HBB.out.mono (by omega)))
  clear HIN HBB HZ HB1
  have z1 := HZ3.out.cell
  have z2 := HZ3.out.frozen
  go_wp2
  refine bodyPost_ret (v := .tuple #[pkV zeroPk none 0 none 0, .int .i64 1]) (by simp [results, Tryz.results11, go_sem, pkV, zeroPk, z1, World.cell?_setCell_same]) rfl ⟨none, 0, none, 0, rfl, ?_⟩
  refine dec_zero HB3.out (by omega) ?_
  repeat (first | refine Kx.trans ?_ (Kx.set _ _ _ _ _) | exact Kx.refl _ _ _)

set_option maxHeartbeats 8000000 in
theorem decode_wrong (s : ByteArray) (w : World) (hs : s.size ≤ maxLen) (hm : Max w) (h : rdB s = true) (hc : chkP (rdP s) ≠ 0) :
    Calls Tryz.prog 11 #[.string s] w fun e w' => ∃ aa ca ac cc, e = .returned (.tuple #[pkV (decP s) aa ca ac cc, .int .i64 (decE s)]) ∧ PkInB w.heap.size w' (decP s) aa ac ∧ Below w.heap.size w w' := by
  have hm := hide hm
  have CR := hide (fun W => read_any s W hs)
  have h1 : decE s = chkP (rdP s) := by unfold decE; rw [if_neg (by simp [h])]
  have h2 : decP s = zeroPk := by unfold decP; rw [h1, if_neg hc]
  rw [h1, h2]
  rw [h] at CR
  clear h h1 h2
  revert CR hc
  generalize rdP s = q
  intro hc CR
  have hc' : (chkP q != 0) = true := by simp [hc]
  clear hc
  have CC : Hid (∀ aa ca ac cc W, Max W → PkIn W q aa ac → Calls Tryz.prog 16 #[pkV q aa ca ac cc] W fun e w' => e = .returned (.int .i64 (chkP q)) ∧ Below W.heap.size W w') := fun aa ca ac cc W g1 g2 => check_any q aa ac ca cc W g1 g2
  go_enter Tryz.func11, Tryz.ntmps11
  go_wp2_with fail
  refine (CR.out _).mono ?_
  rintro e w1 ⟨aa, ca, ac, cc, rfl, hin, hb1⟩
  have HZ : Hid (PAt w.heap.size zeroPk (.slice none 0 0) (.slice none 0 0) w1) := by
    show _ = _; rw [hb1.block w.heap.size (by simp)]; exact Go.heap_alloc_new w _
  have hs1 := hb1.size
  simp only [World.size_alloc] at hs1
  have HIN : Hid (PkInB (w.heap.size + 1) w1 q aa ac) := by have := hin; simp only [World.size_alloc] at this; exact this
  have HB1 := hide (below_step ((Below.refl w.heap.size w).alloc (Nat.le_refl _) _) hb1)
  clear hin hb1
  simp only [pkV]
  go_upto_region 2 with fail
  have HP3 : Hid (PAt w1.heap.size q (.slice aa q.asks.length ca) (.slice ac q.codes.length cc) (w1.alloc (.cells #[.int .i64 q.kind, .bool q.dup, .bool q.retain, .bool q.clean, .bool q.session, .int .i64 q.qos, .int .i64 q.id, .int .i64 q.keep, .int .i64 q.code, .string q.client, .string q.topic, .string q.payload, .slice aa q.asks.length ca, .slice ac q.codes.length cc] 35))) := Go.heap_alloc_new w1 _
  have HBB : Hid (Below w1.heap.size w1 (w1.alloc (.cells #[.int .i64 q.kind, .bool q.dup, .bool q.retain, .bool q.clean, .bool q.session, .int .i64 q.qos, .int .i64 q.id, .int .i64 q.keep, .int .i64 q.code, .string q.client, .string q.topic, .string q.payload, .slice aa q.asks.length ca, .slice ac q.codes.length cc] 35))) := (Below.refl _ _).alloc (Nat.le_refl _) _
  revert HP3 HBB
  generalize w1.alloc (.cells #[.int .i64 q.kind, .bool q.dup, .bool q.retain, .bool q.clean, .bool q.session, .int .i64 q.qos, .int .i64 q.id, .int .i64 q.keep, .int .i64 q.code, .string q.client, .string q.topic, .string q.payload, .slice aa q.asks.length ca, .slice ac q.codes.length cc] 35) = W3
  intro HP3 HBB
  have HZ3 : Hid (PAt w.heap.size zeroPk (.slice none 0 0) (.slice none 0 0) W3) := by have := HZ.out; unfold PAt at *; show _ = _; rw [HBB.out.block _ (by omega)]; exact this
  have HIN3 := hide (HIN.out.keep (Nat.le_refl _) HBB.out.size (fun k _ hk => HBB.out.block k hk))
  have hsb := HBB.out.size
  have HB3 := hide (HB1.out.trans (HBB.out.mono (by omega)))
  clear HIN HBB HZ HB1
  have HCK := hide (CC.out aa ca ac cc W3 (hm.out.below HB3.out) HIN3.out.1)
  simp only [pkV] at HCK
  have x1 := HP3.out.cell
  clear CC CR
  go_wp2_with fail
  refine HCK.out.mono ?_
  rintro e w4 ⟨rfl, hb4⟩
  have HZ4 : Hid (PAt w.heap.size zeroPk (.slice none 0 0) (.slice none 0 0) w4) := by have := HZ3.out; unfold PAt at *; show _ = _; rw [hb4.block _ (by omega)]; exact this
  have z1 := HZ4.out.cell
  have z2 := HZ4.out.frozen
  have hs4 := hb4.size
  have HB4 := hide (HB3.out.trans (hb4.mono (by omega)))
  clear hb4 HCK x1 HZ3 HP3 HIN3 HB3
  go_wp2
  refine bodyPost_ret (v := .tuple #[pkV zeroPk none 0 none 0, .int .i64 (chkP q)]) (by simp [results, Tryz.results11, go_sem, pkV, zeroPk, z1, World.cell?_setCell_same]) rfl ⟨none, 0, none, 0, rfl, ?_⟩
  refine dec_zero HB4.out (by omega) ?_
  repeat (first | refine Kx.trans ?_ (Kx.set _ _ _ _ _) | exact Kx.refl _ _ _)

set_option maxHeartbeats 8000000 in
theorem decode_right (s : ByteArray) (w : World) (hs : s.size ≤ maxLen) (hm : Max w) (h : rdB s = true) (hc : chkP (rdP s) = 0) :
    Calls Tryz.prog 11 #[.string s] w fun e w' => ∃ aa ca ac cc, e = .returned (.tuple #[pkV (decP s) aa ca ac cc, .int .i64 (decE s)]) ∧ PkInB w.heap.size w' (decP s) aa ac ∧ Below w.heap.size w w' := by
  have hm := hide hm
  have CR := hide (fun W => read_any s W hs)
  have h1 : decE s = 0 := by unfold decE; rw [if_neg (by simp [h]), hc]
  have h2 : decP s = rdP s := by unfold decP; rw [if_pos h1]
  rw [h1, h2]
  rw [h] at CR
  clear h h1 h2
  revert CR hc
  generalize rdP s = q
  intro hc CR
  have HC0 := hide hc
  clear hc
  have CC : Hid (∀ aa ca ac cc W, Max W → PkIn W q aa ac → Calls Tryz.prog 16 #[pkV q aa ca ac cc] W fun e w' => e = .returned (.int .i64 0) ∧ Below W.heap.size W w') := fun aa ca ac cc W g1 g2 => by have := check_any q aa ac ca cc W g1 g2; rwa [HC0.out] at this
  go_enter Tryz.func11, Tryz.ntmps11
  go_wp2_with fail
  refine (CR.out _).mono ?_
  rintro e w1 ⟨aa, ca, ac, cc, rfl, hin, hb1⟩
  have HZ : Hid (PAt w.heap.size zeroPk (.slice none 0 0) (.slice none 0 0) w1) := by
    show _ = _; rw [hb1.block w.heap.size (by simp)]; exact Go.heap_alloc_new w _
  have hs1 := hb1.size
  simp only [World.size_alloc] at hs1
  have HIN : Hid (PkInB (w.heap.size + 1) w1 q aa ac) := by have := hin; simp only [World.size_alloc] at this; exact this
  have HB1 := hide (below_step ((Below.refl w.heap.size w).alloc (Nat.le_refl _) _) hb1)
  clear hin hb1
  simp only [pkV]
  go_upto_region 2 with fail
  have HP3 : Hid (PAt w1.heap.size q (.slice aa q.asks.length ca) (.slice ac q.codes.length cc) (w1.alloc (.cells #[.int .i64 q.kind, .bool q.dup, .bool q.retain, .bool q.clean, .bool q.session, .int .i64 q.qos, .int .i64 q.id, .int .i64 q.keep, .int .i64 q.code, .string q.client, .string q.topic, .string q.payload, .slice aa q.asks.length ca, .slice ac q.codes.length cc] 35))) := Go.heap_alloc_new w1 _
  have HBB : Hid (Below w1.heap.size w1 (w1.alloc (.cells #[.int .i64 q.kind, .bool q.dup, .bool q.retain, .bool q.clean, .bool q.session, .int .i64 q.qos, .int .i64 q.id, .int .i64 q.keep, .int .i64 q.code, .string q.client, .string q.topic, .string q.payload, .slice aa q.asks.length ca, .slice ac q.codes.length cc] 35))) := (Below.refl _ _).alloc (Nat.le_refl _) _
  revert HP3 HBB
  generalize w1.alloc (.cells #[.int .i64 q.kind, .bool q.dup, .bool q.retain, .bool q.clean, .bool q.session, .int .i64 q.qos, .int .i64 q.id, .int .i64 q.keep, .int .i64 q.code, .string q.client, .string q.topic, .string q.payload, .slice aa q.asks.length ca, .slice ac q.codes.length cc] 35) = W3
  intro HP3 HBB
  have HZ3 : Hid (PAt w.heap.size zeroPk (.slice none 0 0) (.slice none 0 0) W3) := by have := HZ.out; unfold PAt at *; show _ = _; rw [HBB.out.block _ (by omega)]; exact this
  have HIN3 := hide (HIN.out.keep (Nat.le_refl _) HBB.out.size (fun k _ hk => HBB.out.block k hk))
  have hsb := HBB.out.size
  have HB3 := hide (HB1.out.trans (HBB.out.mono (by omega)))
  clear HIN HBB HZ HB1
  have HCK := hide (CC.out aa ca ac cc W3 (hm.out.below HB3.out) HIN3.out.1)
  simp only [pkV] at HCK
  have x1 := HP3.out.cell
  clear CC CR
  go_wp2_with fail
  refine HCK.out.mono ?_
  rintro e w4 ⟨rfl, hb4⟩
  have HZ4 : Hid (PAt w.heap.size zeroPk (.slice none 0 0) (.slice none 0 0) w4) := by have := HZ3.out; unfold PAt at *; show _ = _; rw [hb4.block _ (by omega)]; exact this
  have HP4 : Hid (PAt w1.heap.size q (.slice aa q.asks.length ca) (.slice ac q.codes.length cc) w4) := by have := HP3.out; have hl := this.lt; unfold PAt at *; show _ = _; rw [hb4.block _ hl]; exact this
  have HIN4 := hide (HIN3.out.keep (Nat.le_refl _) hb4.size (fun k _ hk => hb4.block k hk))
  have y1 := HP4.out.cell
  have z1 := HZ4.out.cell
  have z2 := HZ4.out.frozen
  have hs4 := hb4.size
  have HB4 := hide (HB3.out.trans (hb4.mono (by omega)))
  clear hb4 HCK x1 HZ3 HP3 HIN3 HB3
  go_wp2
  refine bodyPost_ret (v := .tuple #[pkV q aa ca ac cc, .int .i64 0]) (by simp [results, Tryz.results11, go_sem, pkV, zeroPk, z1, World.cell?_setCell_same]) rfl ⟨aa, ca, ac, cc, rfl, ?_⟩
  refine read_final HIN4.out HB4.out (by omega) ?_
  repeat (first | refine Kx.trans ?_ (Kx.set _ _ _ _ _) | exact Kx.refl _ _ _)

theorem decode_any (s : ByteArray) (w : World) (hs : s.size ≤ maxLen) (hm : Max w) :
    Calls Tryz.prog 11 #[.string s] w fun e w' => ∃ aa ca ac cc, e = .returned (.tuple #[pkV (decP s) aa ca ac cc, .int .i64 (decE s)]) ∧ PkInB w.heap.size w' (decP s) aa ac ∧ Below w.heap.size w w' := by
  cases h : rdB s with
  | false => exact decode_bad s w hs h
  | true =>
    by_cases hc : chkP (rdP s) = 0
    · exact decode_right s w hs hm h hc
    · exact decode_wrong s w hs hm h hc
end Go.Proofs.YtnjdpibgfbbkcabGreatDoor
