/-
  The reference's PacketOf: kind 1.
-/
import Derived.Test.YtnjdpibgfbbkcabGreatDoorRefPkOfRows
namespace Go.Proofs.YtnjdpibgfbbkcabGreatDoor
open Go.RowKit Go.PlainAid Go.Deep

set_option maxHeartbeats 8000000 in
set_option maxRecDepth 100000 in
theorem po_1 (s : ByteArray) (w : World) (hs : s.size ≤ 1048576) (hlen : lenOk s = true) (hk : bt s 0 / 16 = 1) :
    Calls Tryz.prog 13 #[.string s] w (OfPost s w) := by
  have hs' : s.size ≤ maxLen := by unfold maxLen; omega
  obtain ⟨u, hu, he, hu1, hu4, hus, hv⟩ := lenOk_ok hlen
  have hpos : 0 < s.size := by omega
  have hse := str_some hpos
  have hix := get_bt s 0 hpos
  have HC : Hid (∀ W, Calls Tryz.prog 12 #[.string s, .int .i64 1] W fun e w' => e = .returned (.tuple #[.int .i64 ((s.size : Int) - 1 - u), .int .i64 u, .int .i64 0]) ∧ w' = W) := fun W => by
    have := getLongOf_any s 1 W hs'
    rwa [hu, he, hv] at this
  have HNN : Hid (1 + u = 1 + (glR s 1).2.1.toNat) := by show _ = _; rw [hu]; rfl
  obtain ⟨T1, hT1⟩ : ∃ T, tT s (1 + u) false = T := ⟨_, rfl⟩
  have C1 : Hid (∀ W, Tk (w.heap.size + 1 + 1) s (1 + u) false W → Calls Tryz.prog 22 #[.pointer (some ⟨w.heap.size + 1 + 1, 0, none⟩)] W fun e w' => e = .returned (.string T1.1) ∧ Tk (w.heap.size + 1 + 1) s T1.2.1 T1.2.2 w' ∧ Kx (w.heap.size + 1 + 1) (w.heap.size + 1 + 1) W w') := fun W h => by have := ttext_any (w.heap.size + 1 + 1) s (1 + u) false W hs' (by omega) h; rwa [hT1] at this
  have hle1 : T1.2.1 ≤ s.size := by rw [← hT1]; exact tT_le (by omega)
  obtain ⟨T2, hT2⟩ : ∃ T, tN s T1.2.1 1 T1.2.2 = T := ⟨_, rfl⟩
  have C2 : Hid (∀ W, Tk (w.heap.size + 1 + 1) s T1.2.1 T1.2.2 W → Calls Tryz.prog 23 #[.pointer (some ⟨w.heap.size + 1 + 1, 0, none⟩), .int .i64 1] W fun e w' => e = .returned (.int .i64 T2.1) ∧ Tk (w.heap.size + 1 + 1) s T2.2.1 T2.2.2 w' ∧ Kx (w.heap.size + 1 + 1) (w.heap.size + 1 + 1) W w') := fun W h => by have := tnumber_any (w.heap.size + 1 + 1) s T1.2.1 1 T1.2.2 W hs' h; rwa [hT2] at this
  have hle2 : T2.2.1 ≤ s.size := by rw [← hT2]; exact tN_le (by decide) (by omega)
  obtain ⟨T3, hT3⟩ : ∃ T, tN s T2.2.1 1 T2.2.2 = T := ⟨_, rfl⟩
  have C3 : Hid (∀ W, Tk (w.heap.size + 1 + 1) s T2.2.1 T2.2.2 W → Calls Tryz.prog 23 #[.pointer (some ⟨w.heap.size + 1 + 1, 0, none⟩), .int .i64 1] W fun e w' => e = .returned (.int .i64 T3.1) ∧ Tk (w.heap.size + 1 + 1) s T3.2.1 T3.2.2 w' ∧ Kx (w.heap.size + 1 + 1) (w.heap.size + 1 + 1) W w') := fun W h => by have := tnumber_any (w.heap.size + 1 + 1) s T2.2.1 1 T2.2.2 W hs' h; rwa [hT3] at this
  have hle3 : T3.2.1 ≤ s.size := by rw [← hT3]; exact tN_le (by decide) (by omega)
  obtain ⟨T4, hT4⟩ : ∃ T, tN s T3.2.1 2 T3.2.2 = T := ⟨_, rfl⟩
  have C4 : Hid (∀ W, Tk (w.heap.size + 1 + 1) s T3.2.1 T3.2.2 W → Calls Tryz.prog 23 #[.pointer (some ⟨w.heap.size + 1 + 1, 0, none⟩), .int .i64 2] W fun e w' => e = .returned (.int .i64 T4.1) ∧ Tk (w.heap.size + 1 + 1) s T4.2.1 T4.2.2 w' ∧ Kx (w.heap.size + 1 + 1) (w.heap.size + 1 + 1) W w') := fun W h => by have := tnumber_any (w.heap.size + 1 + 1) s T3.2.1 2 T3.2.2 W hs' h; rwa [hT4] at this
  have hle4 : T4.2.1 ≤ s.size := by rw [← hT4]; exact tN_le (by decide) (by omega)
  obtain ⟨T5, hT5⟩ : ∃ T, tT s T4.2.1 T4.2.2 = T := ⟨_, rfl⟩
  have C5 : Hid (∀ W, Tk (w.heap.size + 1 + 1) s T4.2.1 T4.2.2 W → Calls Tryz.prog 22 #[.pointer (some ⟨w.heap.size + 1 + 1, 0, none⟩)] W fun e w' => e = .returned (.string T5.1) ∧ Tk (w.heap.size + 1 + 1) s T5.2.1 T5.2.2 w' ∧ Kx (w.heap.size + 1 + 1) (w.heap.size + 1 + 1) W w') := fun W h => by have := ttext_any (w.heap.size + 1 + 1) s T4.2.1 T4.2.2 W hs' (by omega) h; rwa [hT5] at this
  have hle5 : T5.2.1 ≤ s.size := by rw [← hT5]; exact tT_le (by omega)
  have HTO : Hid (Told s ⟨1, false, false, T3.1 == 2, false, 0, 0, T4.1, 0, T5.1, ⟨#[]⟩, ⟨#[]⟩, [], []⟩ T5.2.2) := told_1 (by omega) hk HNN.out hT1 hT2 hT3 hT4 hT5
  clear hT1
  clear hT2
  clear hT3
  clear hT4
  clear hT5
  obtain ⟨v1, n1, b1⟩ := T1
  obtain ⟨v2, n2, b2⟩ := T2
  obtain ⟨v3, n3, b3⟩ := T3
  obtain ⟨v4, n4, b4⟩ := T4
  obtain ⟨v5, n5, b5⟩ := T5
  simp only at HTO C1 C2 C3 C4 C5 hle1 hle2 hle3 hle4 hle5
  have HW := hide (po_start w s 1 u)
  obtain ⟨b, hb⟩ : ∃ b : Nat, (bt s 0).toNat = b := ⟨_, rfl⟩
  have hbb : bt s 0 = (b : Int) := by have := bt_nonneg s 0; omega
  have hbl : (b : Int) ≤ 255 := hbb ▸ bt_le s 0
  rw [hbb] at hix hk
  have hne : ((1 + (u : Int) + ((s.size : Int) - 1 - u)) != (s.size : Int)) = false := by simp; omega
  have HS := hide hs
  have hsu : (s.size : Int) ≤ 1048576 := by omega
  have hu4' : (u : Int) ≤ 4 := by omega
  clear hlen hu he hv hb hbb hs
  go_enter Tryz.func13, Tryz.ntmps13
  go_upto_region 9 with (first | (go_at_call 12; refine (HC.out _).mono ?_; rintro x w' ⟨rfl, rfl⟩) | (go_at_call 21; refine (between_yes _ _ _ _ (by omega)).mono ?_; rintro x w' ⟨rfl, rfl⟩) | (go_at_call 21; refine (between_no _ _ _ _ (by omega)).mono ?_; rintro x w' ⟨rfl, rfl⟩))
  revert HW
  generalize ((w.alloc (.cells #[.int .i64 0, .bool false, .bool false, .bool false, .bool false, .int .i64 0, .int .i64 0, .int .i64 0, .int .i64 0, .string ⟨#[]⟩, .string ⟨#[]⟩, .string ⟨#[]⟩, .slice none 0 0, .slice none 0 0] 35)).alloc (.cells #[.int .i64 1, .bool false, .bool false, .bool false, .bool false, .int .i64 0, .int .i64 0, .int .i64 0, .int .i64 0, .string ⟨#[]⟩, .string ⟨#[]⟩, .string ⟨#[]⟩, .slice none 0 0, .slice none 0 0] 35)).alloc (.cells #[.string s, .int .i64 (1 + (u : Int)), .bool false] 52) = W0
  intro HW
  go_wp2_with fail
  refine (C1.out _ (HW.out).take).mono ?_
  rintro e w1 ⟨rfl, ht1, hk1⟩
  have PV1 := hide ((HW.out).took ht1 hk1)
  clear ht1 hk1 HW C1
  go_wp2_with fail
  refine (C2.out _ (PV1.out).take).mono ?_
  rintro e w2 ⟨rfl, ht2, hk2⟩
  have PV2 := hide ((PV1.out).took ht2 hk2)
  clear ht2 hk2 PV1 C2
  go_wp2_with fail
  refine (C3.out _ (PV2.out).take).mono ?_
  rintro e w3 ⟨rfl, ht3, hk3⟩
  have PV3 := hide ((PV2.out).took ht3 hk3)
  clear ht3 hk3 PV2 C3
  have q3 := PV3.out.pack.frozen 3
  have qc3 := PV3.out.pack.cell 3
  go_wp2_with fail
  refine (C4.out _ (PV3.out.pat 3 _ (PV3.out.pack.set_clean _)).take).mono ?_
  rintro e w4 ⟨rfl, ht4, hk4⟩
  have PV4 := hide ((PV3.out.pat 3 _ (PV3.out.pack.set_clean _)).took ht4 hk4)
  clear ht4 hk4 PV3 C4
  have q4 := PV4.out.pack.frozen 7
  have qc4 := PV4.out.pack.cell 7
  go_wp2_with fail
  refine (C5.out _ (PV4.out.pat 7 _ (PV4.out.pack.set_keep _)).take).mono ?_
  rintro e w5 ⟨rfl, ht5, hk5⟩
  have PV5 := hide ((PV4.out.pat 7 _ (PV4.out.pack.set_keep _)).took ht5 hk5)
  clear ht5 hk5 PV4 C5
  have q5 := PV5.out.pack.frozen 9
  have qc5 := PV5.out.pack.cell 9
  go_upto_region 42 with fail
  have HPO : Hid (Po w s ⟨1, false, false, v3 == 2, false, 0, 0, v4, 0, v5, ⟨#[]⟩, ⟨#[]⟩, [], []⟩ (.slice none 0 0) (.slice none 0 0) n5 b5 (w5.setCell ⟨w.heap.size + 1, 9, none⟩ (.string v5))) := PV5.out.pat 9 _ (PV5.out.pack.set_client v5)
  revert HPO
  generalize w5.setCell ⟨w.heap.size + 1, 9, none⟩ (.string v5) = WX
  intro HPO
  clear PV5 q3 q4 q5 qc3 qc4 qc5 HC hle1 hle2 hle3 hle4 hle5
  have HIN : Hid (PkInB (w.heap.size + 1) WX ⟨1, false, false, v3 == 2, false, 0, 0, v4, 0, v5, ⟨#[]⟩, ⟨#[]⟩, [], []⟩ none none) := ⟨⟨.inl rfl, .inl rfl⟩, .inl rfl, .inl rfl⟩
  generalize n5 = nX at *
  obtain ⟨p, hp⟩ : ∃ p : Pk, p = ⟨1, false, false, v3 == 2, false, 0, 0, v4, 0, v5, ⟨#[]⟩, ⟨#[]⟩, [], []⟩ := ⟨_, rfl⟩
  have HPQ : Hid (Po w s p (.slice none p.asks.length 0) (.slice none p.codes.length 0) nX b5 WX) := by rw [hp]; exact HPO.out
  rw [← hp] at HTO HIN
  clear hp HPO
  have hsz := HPQ.out.size
  cases b5 with
  | true =>
    have HD := hide (told_bad HTO.out (.inl rfl))
    have z1 := HPQ.out.zero.cell
    have z2 := HPQ.out.zero.frozen
    obtain ⟨y0, y1, y2, _, _⟩ := HPQ.out.take.cells
    go_wp2
    exact bodyPost_ret (v := .tuple #[pkV zeroPk none 0 none 0, .int .i64 1]) (by simp [results, Tryz.results13, go_sem, pkV, zeroPk, z1, World.cell?_setCell_same]) rfl (OfPost.mk HD.out.2 HD.out.1 rfl (po_zero HPQ.out.below (by omega) (kx14 _ _ _ _ _ _ _ _ _ _ _ _ _ _ _ _)))
  | false =>
    have HF := hide (HTO.out.fit rfl)
    have HSZ := hide (HTO.out.size rfl)
    have CB : Hid (∀ W, PkIn W p none none → Calls Tryz.prog 24 #[pkV p none 0 none 0] W fun e w' => e = .returned (.string (encP p)) ∧ Below W.heap.size W w') := fun W h => bytesP_any p none none 0 0 W h HF.out (Nat.le_trans HSZ.out.1 HS.out) (Nat.le_trans HSZ.out.2.1 HS.out) (Nat.le_trans HSZ.out.2.2 HS.out)
    have CC : Hid (∀ W, PkIn W p none none → Calls Tryz.prog 25 #[pkV p none 0 none 0] W fun e w' => e = .returned (.int .i64 (chkP p)) ∧ Below W.heap.size W w') := fun W h => rckP_any p none none 0 0 W h (fit_small HF.out).1 (fit_small HF.out).2
    simp only [pkV] at CB CC
    have x1 := HPQ.out.pack.cell
    obtain ⟨y0, y1, y2, _, _⟩ := HPQ.out.take.cells
    go_wp2_with fail
    refine (CB.out _ HIN.out.1).mono ?_
    rintro e w4 ⟨rfl, hb4⟩
    have HP4 := hide (HPQ.out.keep hb4)
    have HIN4 := hide (HIN.out.keep (Nat.le_refl _) hb4.size (fun k _ hk => hb4.block k hk))
    have hsz4 := HP4.out.size
    clear hb4 HPQ HIN CB x1 y0 y1 y2 hsz
    have z1 := HP4.out.zero.cell
    have z2 := HP4.out.zero.frozen
    have x1 := HP4.out.pack.cell
    by_cases heq : encP p = s
    · have HEQ : Hid (((encP p).toList == s.toList) = true) := by show _ = _; rw [txt_eq, decide_eq_true heq]
      have heq' := HEQ.out
      have HG := hide (told_good HTO.out (Nat.le_trans HS.out (by decide)) heq)
      clear heq
      go_wp2_with fail
      refine (CC.out _ HIN4.out.1).mono ?_
      rintro e w5 ⟨rfl, hb5⟩
      have HP5 := hide (HP4.out.keep hb5)
      have HIN5 := hide (HIN4.out.keep (Nat.le_refl _) hb5.size (fun k _ hk => hb5.block k hk))
      have hsz5 := HP5.out.size
      clear hb5 HP4 HIN4 CC x1 z1 z2
      have z1 := HP5.out.zero.cell
      have z2 := HP5.out.zero.frozen
      have x1 := HP5.out.pack.cell
      by_cases hc : chkP p = 0
      · have hc' : (chkP p != 0) = false := by simp [hc]
        have HC0 := hide hc
        clear hc
        go_wp2
        exact bodyPost_ret (v := .tuple #[pkV p none 0 none 0, .int .i64 (chkP p)]) (by simp [results, Tryz.results13, go_sem, pkV, zeroPk, z1, World.cell?_setCell_same]) rfl (OfPost.mk (HG.out.2.1 HC0.out) HG.out.1 rfl (po_final HIN5.out HP5.out.below (by omega) (kx14 _ _ _ _ _ _ _ _ _ _ _ _ _ _ _ _)))
      · have hc' : (chkP p != 0) = true := by simp [hc]
        have HC0 := hide hc
        clear hc
        go_wp2
        exact bodyPost_ret (v := .tuple #[pkV zeroPk none 0 none 0, .int .i64 (chkP p)]) (by simp [results, Tryz.results13, go_sem, pkV, zeroPk, z1, World.cell?_setCell_same]) rfl (OfPost.mk (HG.out.2.2 HC0.out) HG.out.1 rfl (po_zero HP5.out.below (by omega) (kx14 _ _ _ _ _ _ _ _ _ _ _ _ _ _ _ _)))
    · have HEQ : Hid (((encP p).toList == s.toList) = false) := by show _ = _; rw [txt_eq, decide_eq_false heq]
      have heq' := HEQ.out
      have HD := hide (told_bad HTO.out (.inr heq))
      clear heq
      go_wp2
      exact bodyPost_ret (v := .tuple #[pkV zeroPk none 0 none 0, .int .i64 1]) (by simp [results, Tryz.results13, go_sem, pkV, zeroPk, z1, World.cell?_setCell_same]) rfl (OfPost.mk HD.out.2 HD.out.1 rfl (po_zero HP4.out.below (by omega) (kx14 _ _ _ _ _ _ _ _ _ _ _ _ _ _ _ _)))
end Go.Proofs.YtnjdpibgfbbkcabGreatDoor
/-
  The reference's PacketOf: kind 2.
-/
namespace Go.Proofs.YtnjdpibgfbbkcabGreatDoor
open Go.RowKit Go.PlainAid Go.Deep

set_option maxHeartbeats 8000000 in
set_option maxRecDepth 100000 in
theorem po_2 (s : ByteArray) (w : World) (hs : s.size ≤ 1048576) (hlen : lenOk s = true) (hk : bt s 0 / 16 = 2) :
    Calls Tryz.prog 13 #[.string s] w (OfPost s w) := by
  have hs' : s.size ≤ maxLen := by unfold maxLen; omega
  obtain ⟨u, hu, he, hu1, hu4, hus, hv⟩ := lenOk_ok hlen
  have hpos : 0 < s.size := by omega
  have hse := str_some hpos
  have hix := get_bt s 0 hpos
  have HC : Hid (∀ W, Calls Tryz.prog 12 #[.string s, .int .i64 1] W fun e w' => e = .returned (.tuple #[.int .i64 ((s.size : Int) - 1 - u), .int .i64 u, .int .i64 0]) ∧ w' = W) := fun W => by
    have := getLongOf_any s 1 W hs'
    rwa [hu, he, hv] at this
  have HNN : Hid (1 + u = 1 + (glR s 1).2.1.toNat) := by show _ = _; rw [hu]; rfl
  obtain ⟨T1, hT1⟩ : ∃ T, tN s (1 + u) 1 false = T := ⟨_, rfl⟩
  have C1 : Hid (∀ W, Tk (w.heap.size + 1 + 1) s (1 + u) false W → Calls Tryz.prog 23 #[.pointer (some ⟨w.heap.size + 1 + 1, 0, none⟩), .int .i64 1] W fun e w' => e = .returned (.int .i64 T1.1) ∧ Tk (w.heap.size + 1 + 1) s T1.2.1 T1.2.2 w' ∧ Kx (w.heap.size + 1 + 1) (w.heap.size + 1 + 1) W w') := fun W h => by have := tnumber_any (w.heap.size + 1 + 1) s (1 + u) 1 false W hs' h; rwa [hT1] at this
  have hle1 : T1.2.1 ≤ s.size := by rw [← hT1]; exact tN_le (by decide) (by omega)
  obtain ⟨T2, hT2⟩ : ∃ T, tN s T1.2.1 1 T1.2.2 = T := ⟨_, rfl⟩
  have C2 : Hid (∀ W, Tk (w.heap.size + 1 + 1) s T1.2.1 T1.2.2 W → Calls Tryz.prog 23 #[.pointer (some ⟨w.heap.size + 1 + 1, 0, none⟩), .int .i64 1] W fun e w' => e = .returned (.int .i64 T2.1) ∧ Tk (w.heap.size + 1 + 1) s T2.2.1 T2.2.2 w' ∧ Kx (w.heap.size + 1 + 1) (w.heap.size + 1 + 1) W w') := fun W h => by have := tnumber_any (w.heap.size + 1 + 1) s T1.2.1 1 T1.2.2 W hs' h; rwa [hT2] at this
  have hle2 : T2.2.1 ≤ s.size := by rw [← hT2]; exact tN_le (by decide) (by omega)
  have HTO : Hid (Told s ⟨2, false, false, false, T1.1 == 1, 0, 0, 0, T2.1, ⟨#[]⟩, ⟨#[]⟩, ⟨#[]⟩, [], []⟩ T2.2.2) := told_2 (by omega) hk HNN.out hT1 hT2
  clear hT1
  clear hT2
  obtain ⟨v1, n1, b1⟩ := T1
  obtain ⟨v2, n2, b2⟩ := T2
  simp only at HTO C1 C2 hle1 hle2
  have HW := hide (po_start w s 2 u)
  obtain ⟨b, hb⟩ : ∃ b : Nat, (bt s 0).toNat = b := ⟨_, rfl⟩
  have hbb : bt s 0 = (b : Int) := by have := bt_nonneg s 0; omega
  have hbl : (b : Int) ≤ 255 := hbb ▸ bt_le s 0
  rw [hbb] at hix hk
  have hne : ((1 + (u : Int) + ((s.size : Int) - 1 - u)) != (s.size : Int)) = false := by simp; omega
  have HS := hide hs
  have hsu : (s.size : Int) ≤ 1048576 := by omega
  have hu4' : (u : Int) ≤ 4 := by omega
  clear hlen hu he hv hb hbb hs
  go_enter Tryz.func13, Tryz.ntmps13
  go_upto_region 9 with (first | (go_at_call 12; refine (HC.out _).mono ?_; rintro x w' ⟨rfl, rfl⟩) | (go_at_call 21; refine (between_yes _ _ _ _ (by omega)).mono ?_; rintro x w' ⟨rfl, rfl⟩) | (go_at_call 21; refine (between_no _ _ _ _ (by omega)).mono ?_; rintro x w' ⟨rfl, rfl⟩))
  revert HW
  generalize ((w.alloc (.cells #[.int .i64 0, .bool false, .bool false, .bool false, .bool false, .int .i64 0, .int .i64 0, .int .i64 0, .int .i64 0, .string ⟨#[]⟩, .string ⟨#[]⟩, .string ⟨#[]⟩, .slice none 0 0, .slice none 0 0] 35)).alloc (.cells #[.int .i64 2, .bool false, .bool false, .bool false, .bool false, .int .i64 0, .int .i64 0, .int .i64 0, .int .i64 0, .string ⟨#[]⟩, .string ⟨#[]⟩, .string ⟨#[]⟩, .slice none 0 0, .slice none 0 0] 35)).alloc (.cells #[.string s, .int .i64 (1 + (u : Int)), .bool false] 52) = W0
  intro HW
  go_wp2_with fail
  refine (C1.out _ (HW.out).take).mono ?_
  rintro e w1 ⟨rfl, ht1, hk1⟩
  have PV1 := hide ((HW.out).took ht1 hk1)
  clear ht1 hk1 HW C1
  have q1 := PV1.out.pack.frozen 4
  have qc1 := PV1.out.pack.cell 4
  go_wp2_with fail
  refine (C2.out _ (PV1.out.pat 4 _ (PV1.out.pack.set_session _)).take).mono ?_
  rintro e w2 ⟨rfl, ht2, hk2⟩
  have PV2 := hide ((PV1.out.pat 4 _ (PV1.out.pack.set_session _)).took ht2 hk2)
  clear ht2 hk2 PV1 C2
  have q2 := PV2.out.pack.frozen 8
  have qc2 := PV2.out.pack.cell 8
  go_upto_region 42 with fail
  have HPO : Hid (Po w s ⟨2, false, false, false, v1 == 1, 0, 0, 0, v2, ⟨#[]⟩, ⟨#[]⟩, ⟨#[]⟩, [], []⟩ (.slice none 0 0) (.slice none 0 0) n2 b2 (w2.setCell ⟨w.heap.size + 1, 8, none⟩ (.int .i64 v2))) := PV2.out.pat 8 _ (PV2.out.pack.set_code v2)
  revert HPO
  generalize w2.setCell ⟨w.heap.size + 1, 8, none⟩ (.int .i64 v2) = WX
  intro HPO
  clear PV2 q1 q2 qc1 qc2 HC hle1 hle2
  have HIN : Hid (PkInB (w.heap.size + 1) WX ⟨2, false, false, false, v1 == 1, 0, 0, 0, v2, ⟨#[]⟩, ⟨#[]⟩, ⟨#[]⟩, [], []⟩ none none) := ⟨⟨.inl rfl, .inl rfl⟩, .inl rfl, .inl rfl⟩
  generalize n2 = nX at *
  obtain ⟨p, hp⟩ : ∃ p : Pk, p = ⟨2, false, false, false, v1 == 1, 0, 0, 0, v2, ⟨#[]⟩, ⟨#[]⟩, ⟨#[]⟩, [], []⟩ := ⟨_, rfl⟩
  have HPQ : Hid (Po w s p (.slice none p.asks.length 0) (.slice none p.codes.length 0) nX b2 WX) := by rw [hp]; exact HPO.out
  rw [← hp] at HTO HIN
  clear hp HPO
  have hsz := HPQ.out.size
  cases b2 with
  | true =>
    have HD := hide (told_bad HTO.out (.inl rfl))
    have z1 := HPQ.out.zero.cell
    have z2 := HPQ.out.zero.frozen
    obtain ⟨y0, y1, y2, _, _⟩ := HPQ.out.take.cells
    go_wp2
    exact bodyPost_ret (v := .tuple #[pkV zeroPk none 0 none 0, .int .i64 1]) (by simp [results, Tryz.results13, go_sem, pkV, zeroPk, z1, World.cell?_setCell_same]) rfl (OfPost.mk HD.out.2 HD.out.1 rfl (po_zero HPQ.out.below (by omega) (kx14 _ _ _ _ _ _ _ _ _ _ _ _ _ _ _ _)))
  | false =>
    have HF := hide (HTO.out.fit rfl)
    have HSZ := hide (HTO.out.size rfl)
    have CB : Hid (∀ W, PkIn W p none none → Calls Tryz.prog 24 #[pkV p none 0 none 0] W fun e w' => e = .returned (.string (encP p)) ∧ Below W.heap.size W w') := fun W h => bytesP_any p none none 0 0 W h HF.out (Nat.le_trans HSZ.out.1 HS.out) (Nat.le_trans HSZ.out.2.1 HS.out) (Nat.le_trans HSZ.out.2.2 HS.out)
    have CC : Hid (∀ W, PkIn W p none none → Calls Tryz.prog 25 #[pkV p none 0 none 0] W fun e w' => e = .returned (.int .i64 (chkP p)) ∧ Below W.heap.size W w') := fun W h => rckP_any p none none 0 0 W h (fit_small HF.out).1 (fit_small HF.out).2
    simp only [pkV] at CB CC
    have x1 := HPQ.out.pack.cell
    obtain ⟨y0, y1, y2, _, _⟩ := HPQ.out.take.cells
    go_wp2_with fail
    refine (CB.out _ HIN.out.1).mono ?_
    rintro e w4 ⟨rfl, hb4⟩
    have HP4 := hide (HPQ.out.keep hb4)
    have HIN4 := hide (HIN.out.keep (Nat.le_refl _) hb4.size (fun k _ hk => hb4.block k hk))
    have hsz4 := HP4.out.size
    clear hb4 HPQ HIN CB x1 y0 y1 y2 hsz
    have z1 := HP4.out.zero.cell
    have z2 := HP4.out.zero.frozen
    have x1 := HP4.out.pack.cell
    by_cases heq : encP p = s
    · have HEQ : Hid (((encP p).toList == s.toList) = true) := by show _ = _; rw [txt_eq, decide_eq_true heq]
      have heq' := HEQ.out
      have HG := hide (told_good HTO.out (Nat.le_trans HS.out (by decide)) heq)
      clear heq
      go_wp2_with fail
      refine (CC.out _ HIN4.out.1).mono ?_
      rintro e w5 ⟨rfl, hb5⟩
      have HP5 := hide (HP4.out.keep hb5)
      have HIN5 := hide (HIN4.out.keep (Nat.le_refl _) hb5.size (fun k _ hk => hb5.block k hk))
      have hsz5 := HP5.out.size
      clear hb5 HP4 HIN4 CC x1 z1 z2
      have z1 := HP5.out.zero.cell
      have z2 := HP5.out.zero.frozen
      have x1 := HP5.out.pack.cell
      by_cases hc : chkP p = 0
      · have hc' : (chkP p != 0) = false := by simp [hc]
        have HC0 := hide hc
        clear hc
        go_wp2
        exact bodyPost_ret (v := .tuple #[pkV p none 0 none 0, .int .i64 (chkP p)]) (by simp [results, Tryz.results13, go_sem, pkV, zeroPk, z1, World.cell?_setCell_same]) rfl (OfPost.mk (HG.out.2.1 HC0.out) HG.out.1 rfl (po_final HIN5.out HP5.out.below (by omega) (kx14 _ _ _ _ _ _ _ _ _ _ _ _ _ _ _ _)))
      · have hc' : (chkP p != 0) = true := by simp [hc]
        have HC0 := hide hc
        clear hc
        go_wp2
        exact bodyPost_ret (v := .tuple #[pkV zeroPk none 0 none 0, .int .i64 (chkP p)]) (by simp [results, Tryz.results13, go_sem, pkV, zeroPk, z1, World.cell?_setCell_same]) rfl (OfPost.mk (HG.out.2.2 HC0.out) HG.out.1 rfl (po_zero HP5.out.below (by omega) (kx14 _ _ _ _ _ _ _ _ _ _ _ _ _ _ _ _)))
    · have HEQ : Hid (((encP p).toList == s.toList) = false) := by show _ = _; rw [txt_eq, decide_eq_false heq]
      have heq' := HEQ.out
      have HD := hide (told_bad HTO.out (.inr heq))
      clear heq
      go_wp2
      exact bodyPost_ret (v := .tuple #[pkV zeroPk none 0 none 0, .int .i64 1]) (by simp [results, Tryz.results13, go_sem, pkV, zeroPk, z1, World.cell?_setCell_same]) rfl (OfPost.mk HD.out.2 HD.out.1 rfl (po_zero HP4.out.below (by omega) (kx14 _ _ _ _ _ _ _ _ _ _ _ _ _ _ _ _)))
end Go.Proofs.YtnjdpibgfbbkcabGreatDoor
