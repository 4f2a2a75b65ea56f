/-
  The reference's PacketOf: kind 3.
-/
import Derived.Test.YtnjdpibgfbbkcabGreatDoorRefPkOfRows
namespace Go.Proofs.YtnjdpibgfbbkcabGreatDoor
open Go.RowKit Go.PlainAid Go.Deep

set_option maxHeartbeats 8000000 in
set_option maxRecDepth 100000 in
theorem po_3no (s : ByteArray) (w : World) (hs : s.size ≤ 1048576) (hlen : lenOk s = true) (hk : bt s 0 / 16 = 3) (hq : 1 < bt s 0 % 16 / 2 % 4) :
    Calls Tryz.prog 13 #[.string s] w (OfPost s w) := by
  have hs' : s.size ≤ maxLen := by unfold maxLen; omega
  obtain ⟨u, hu, he, hu1, hu4, hus, hv⟩ := lenOk_ok hlen
  have hpos : 0 < s.size := by omega
  have hse := str_some hpos
  have hix := get_bt s 0 hpos
  have HC : Hid (∀ W, Calls Tryz.prog 12 #[.string s, .int .i64 1] W fun e w' => e = .returned (.tuple #[.int .i64 ((s.size : Int) - 1 - u), .int .i64 u, .int .i64 0]) ∧ w' = W) := fun W => by
    have := getLongOf_any s 1 W hs'
    rwa [hu, he, hv] at this
  have HNN : Hid (1 + u = 1 + (glR s 1).2.1.toNat) := by show _ = _; rw [hu]; rfl
  have HTO : Hid (Told s zeroPk true) := told_3no (by omega) hk hq
  have HW := hide (po_start w s 3 u)
  obtain ⟨b, hb⟩ : ∃ b : Nat, (bt s 0).toNat = b := ⟨_, rfl⟩
  have hbb : bt s 0 = (b : Int) := by have := bt_nonneg s 0; omega
  have hbl : (b : Int) ≤ 255 := hbb ▸ bt_le s 0
  rw [hbb] at hix hk hq
  obtain ⟨F, hF⟩ : ∃ F : Int, (b : Int) % 16 = F := ⟨_, rfl⟩
  have hF0 : 0 ≤ F := by omega
  have hF1 : F ≤ 15 := by omega
  rw [hF] at hq
  obtain ⟨D, hD⟩ : ∃ D, decide (8 ≤ F) = D := ⟨_, rfl⟩
  obtain ⟨R, hR⟩ : ∃ R, (F % 2 == 1) = R := ⟨_, rfl⟩
  obtain ⟨Q, hQ⟩ : ∃ Q : Int, F / 2 % 4 = Q := ⟨_, rfl⟩
  rw [hQ] at hq
  have hne : ((1 + (u : Int) + ((s.size : Int) - 1 - u)) != (s.size : Int)) = false := by simp; omega
  have HS := hide hs
  have hsu : (s.size : Int) ≤ 1048576 := by omega
  have hu4' : (u : Int) ≤ 4 := by omega
  clear hlen hu he hv hb hbb hs
  go_enter Tryz.func13, Tryz.ntmps13
  go_upto_region 9 with (first | (go_at_call 12; refine (HC.out _).mono ?_; rintro x w' ⟨rfl, rfl⟩) | (go_at_call 21; refine (between_yes _ _ _ _ (by omega)).mono ?_; rintro x w' ⟨rfl, rfl⟩) | (go_at_call 21; refine (between_no _ _ _ _ (by omega)).mono ?_; rintro x w' ⟨rfl, rfl⟩))
  revert HW
  generalize ((w.alloc (.cells #[.int .i64 0, .bool false, .bool false, .bool false, .bool false, .int .i64 0, .int .i64 0, .int .i64 0, .int .i64 0, .string ⟨#[]⟩, .string ⟨#[]⟩, .string ⟨#[]⟩, .slice none 0 0, .slice none 0 0] 35)).alloc (.cells #[.int .i64 3, .bool false, .bool false, .bool false, .bool false, .int .i64 0, .int .i64 0, .int .i64 0, .int .i64 0, .string ⟨#[]⟩, .string ⟨#[]⟩, .string ⟨#[]⟩, .slice none 0 0, .slice none 0 0] 35)).alloc (.cells #[.string s, .int .i64 (1 + (u : Int)), .bool false] 52) = W0
  intro HW
  have q1 := HW.out.pack.frozen
  have q2 := HW.out.pack.cell
  go_upto_region 22 with fail
  have HP2 : Hid (Po w s ⟨3, D, R, false, false, Q, 0, 0, 0, ⟨#[]⟩, ⟨#[]⟩, ⟨#[]⟩, [], []⟩ (.slice none 0 0) (.slice none 0 0) (1 + u) false (((W0.setCell ⟨w.heap.size + 1, 1, none⟩ (.bool D)).setCell ⟨w.heap.size + 1, 5, none⟩ (.int .i64 Q)).setCell ⟨w.heap.size + 1, 2, none⟩ (.bool R))) := by
    have a1 := HW.out.pat 1 _ (HW.out.pack.set_dup D)
    have a2 := a1.pat 5 _ (a1.pack.set_qos Q)
    exact a2.pat 2 _ (a2.pack.set_retain R)
  revert HP2
  generalize ((W0.setCell ⟨w.heap.size + 1, 1, none⟩ (.bool D)).setCell ⟨w.heap.size + 1, 5, none⟩ (.int .i64 Q)).setCell ⟨w.heap.size + 1, 2, none⟩ (.bool R) = W2
  intro HP2
  clear HW q1 q2 HC
  have qa := HP2.out.pack.cell
  have qf := HP2.out.pack.frozen
  have HD := hide (told_bad HTO.out (.inl rfl))
  have z1 := HP2.out.zero.cell
  have z2 := HP2.out.zero.frozen
  have hsz := HP2.out.size
  go_wp2
  exact bodyPost_ret (v := .tuple #[pkV zeroPk none 0 none 0, .int .i64 1]) (by simp [results, Tryz.results13, go_sem, pkV, zeroPk, z1, World.cell?_setCell_same]) rfl (OfPost.mk HD.out.2 HD.out.1 rfl (po_zero HP2.out.below (by omega) (kx14 _ _ _ _ _ _ _ _ _ _ _ _ _ _ _ _)))

set_option maxHeartbeats 8000000 in
set_option maxRecDepth 100000 in
theorem po_30 (s : ByteArray) (w : World) (hs : s.size ≤ 1048576) (hlen : lenOk s = true) (hk : bt s 0 / 16 = 3) (hq : bt s 0 % 16 / 2 % 4 = 0) :
    Calls Tryz.prog 13 #[.string s] w (OfPost s w) := by
  have hs' : s.size ≤ maxLen := by unfold maxLen; omega
  obtain ⟨u, hu, he, hu1, hu4, hus, hv⟩ := lenOk_ok hlen
  have hpos : 0 < s.size := by omega
  have hse := str_some hpos
  have hix := get_bt s 0 hpos
  have HC : Hid (∀ W, Calls Tryz.prog 12 #[.string s, .int .i64 1] W fun e w' => e = .returned (.tuple #[.int .i64 ((s.size : Int) - 1 - u), .int .i64 u, .int .i64 0]) ∧ w' = W) := fun W => by
    have := getLongOf_any s 1 W hs'
    rwa [hu, he, hv] at this
  have HNN : Hid (1 + u = 1 + (glR s 1).2.1.toNat) := by show _ = _; rw [hu]; rfl
  obtain ⟨T1, hT1⟩ : ∃ T, tT s (1 + u) false = T := ⟨_, rfl⟩
  have C1 : Hid (∀ W, Tk (w.heap.size + 1 + 1) s (1 + u) false W → Calls Tryz.prog 22 #[.pointer (some ⟨w.heap.size + 1 + 1, 0, none⟩)] W fun e w' => e = .returned (.string T1.1) ∧ Tk (w.heap.size + 1 + 1) s T1.2.1 T1.2.2 w' ∧ Kx (w.heap.size + 1 + 1) (w.heap.size + 1 + 1) W w') := fun W h => by have := ttext_any (w.heap.size + 1 + 1) s (1 + u) false W hs' (by omega) h; rwa [hT1] at this
  have hle1 : T1.2.1 ≤ s.size := by rw [← hT1]; exact tT_le (by omega)
  have HTO : Hid (Told s ⟨3, decide (8 ≤ bt s 0 % 16), bt s 0 % 16 % 2 == 1, false, false, 0, 0, 0, 0, ⟨#[]⟩, T1.1, if T1.2.2 = false then s.extract T1.2.1 s.size else ⟨#[]⟩, [], []⟩ T1.2.2) := told_30 (by omega) hk hq HNN.out hT1
  clear hT1
  obtain ⟨v1, n1, b1⟩ := T1
  simp only at HTO C1 hle1
  have HW := hide (po_start w s 3 u)
  obtain ⟨b, hb⟩ : ∃ b : Nat, (bt s 0).toNat = b := ⟨_, rfl⟩
  have hbb : bt s 0 = (b : Int) := by have := bt_nonneg s 0; omega
  have hbl : (b : Int) ≤ 255 := hbb ▸ bt_le s 0
  rw [hbb] at hix hk hq HTO
  obtain ⟨F, hF⟩ : ∃ F : Int, (b : Int) % 16 = F := ⟨_, rfl⟩
  have hF0 : 0 ≤ F := by omega
  have hF1 : F ≤ 15 := by omega
  rw [hF] at hq HTO
  obtain ⟨D, hD⟩ : ∃ D, decide (8 ≤ F) = D := ⟨_, rfl⟩
  obtain ⟨R, hR⟩ : ∃ R, (F % 2 == 1) = R := ⟨_, rfl⟩
  rw [hD, hR] at HTO
  have hne : ((1 + (u : Int) + ((s.size : Int) - 1 - u)) != (s.size : Int)) = false := by simp; omega
  have HS := hide hs
  have hsu : (s.size : Int) ≤ 1048576 := by omega
  have hu4' : (u : Int) ≤ 4 := by omega
  clear hlen hu he hv hb hbb hs
  go_enter Tryz.func13, Tryz.ntmps13
  go_upto_region 9 with (first | (go_at_call 12; refine (HC.out _).mono ?_; rintro x w' ⟨rfl, rfl⟩) | (go_at_call 21; refine (between_yes _ _ _ _ (by omega)).mono ?_; rintro x w' ⟨rfl, rfl⟩) | (go_at_call 21; refine (between_no _ _ _ _ (by omega)).mono ?_; rintro x w' ⟨rfl, rfl⟩))
  revert HW
  generalize ((w.alloc (.cells #[.int .i64 0, .bool false, .bool false, .bool false, .bool false, .int .i64 0, .int .i64 0, .int .i64 0, .int .i64 0, .string ⟨#[]⟩, .string ⟨#[]⟩, .string ⟨#[]⟩, .slice none 0 0, .slice none 0 0] 35)).alloc (.cells #[.int .i64 3, .bool false, .bool false, .bool false, .bool false, .int .i64 0, .int .i64 0, .int .i64 0, .int .i64 0, .string ⟨#[]⟩, .string ⟨#[]⟩, .string ⟨#[]⟩, .slice none 0 0, .slice none 0 0] 35)).alloc (.cells #[.string s, .int .i64 (1 + (u : Int)), .bool false] 52) = W0
  intro HW
  have q1 := HW.out.pack.frozen
  have q2 := HW.out.pack.cell
  go_upto_region 22 with fail
  have HP2 : Hid (Po w s ⟨3, D, R, false, false, 0, 0, 0, 0, ⟨#[]⟩, ⟨#[]⟩, ⟨#[]⟩, [], []⟩ (.slice none 0 0) (.slice none 0 0) (1 + u) false (((W0.setCell ⟨w.heap.size + 1, 1, none⟩ (.bool D)).setCell ⟨w.heap.size + 1, 5, none⟩ (.int .i64 0)).setCell ⟨w.heap.size + 1, 2, none⟩ (.bool R))) := by
    have a1 := HW.out.pat 1 _ (HW.out.pack.set_dup D)
    have a2 := a1.pat 5 _ (a1.pack.set_qos 0)
    exact a2.pat 2 _ (a2.pack.set_retain R)
  revert HP2
  generalize ((W0.setCell ⟨w.heap.size + 1, 1, none⟩ (.bool D)).setCell ⟨w.heap.size + 1, 5, none⟩ (.int .i64 0)).setCell ⟨w.heap.size + 1, 2, none⟩ (.bool R) = W2
  intro HP2
  clear HW q1 q2 HC
  have qa := HP2.out.pack.cell
  have qf := HP2.out.pack.frozen
  go_wp2_with fail
  refine (C1.out _ (HP2.out).take).mono ?_
  rintro e w1 ⟨rfl, ht1, hk1⟩
  have PV1 := hide ((HP2.out).took ht1 hk1)
  clear ht1 hk1 HP2 C1 qa qf
  have qa := PV1.out.pack.cell
  have qf := PV1.out.pack.frozen
  obtain ⟨y0, y1, y2, _, _⟩ := PV1.out.take.cells
  cases b1 with
  | true =>
    rw [if_neg (show ¬ (true = false) by decide)] at HTO
    go_upto_region 42 with fail
    have HPO : Hid (Po w s ⟨3, D, R, false, false, 0, 0, 0, 0, ⟨#[]⟩, v1, ⟨#[]⟩, [], []⟩ (.slice none 0 0) (.slice none 0 0) n1 true (w1.setCell ⟨w.heap.size + 1, 10, none⟩ (.string v1))) := PV1.out.pat 10 _ (PV1.out.pack.set_topic v1)
    revert HPO
    generalize w1.setCell ⟨w.heap.size + 1, 10, none⟩ (.string v1) = WX
    intro HPO
    clear PV1 qa qf y0 y1 y2 hle1
    have HIN : Hid (PkInB (w.heap.size + 1) WX ⟨3, D, R, false, false, 0, 0, 0, 0, ⟨#[]⟩, v1, ⟨#[]⟩, [], []⟩ none none) := ⟨⟨.inl rfl, .inl rfl⟩, .inl rfl, .inl rfl⟩
    obtain ⟨p, hp⟩ : ∃ p : Pk, p = ⟨3, D, R, false, false, 0, 0, 0, 0, ⟨#[]⟩, v1, ⟨#[]⟩, [], []⟩ := ⟨_, rfl⟩
    have HPQ : Hid (Po w s p (.slice none p.asks.length 0) (.slice none p.codes.length 0) n1 true WX) := by rw [hp]; exact HPO.out
    rw [← hp] at HTO HIN
    clear hp HPO
    have hsz := HPQ.out.size
    have HD := hide (told_bad HTO.out (.inl rfl))
    have z1 := HPQ.out.zero.cell
    have z2 := HPQ.out.zero.frozen
    obtain ⟨y0, y1, y2, _, _⟩ := HPQ.out.take.cells
    go_wp2
    exact bodyPost_ret (v := .tuple #[pkV zeroPk none 0 none 0, .int .i64 1]) (by simp [results, Tryz.results13, go_sem, pkV, zeroPk, z1, World.cell?_setCell_same]) rfl (OfPost.mk HD.out.2 HD.out.1 rfl (po_zero HPQ.out.below (by omega) (kx14 _ _ _ _ _ _ _ _ _ _ _ _ _ _ _ _)))
  | false =>
    rw [if_pos (show false = false from rfl)] at HTO
    go_upto_region 42 with fail
    have HPO : Hid (Po w s ⟨3, D, R, false, false, 0, 0, 0, 0, ⟨#[]⟩, v1, s.extract n1 s.size, [], []⟩ (.slice none 0 0) (.slice none 0 0) n1 false ((w1.setCell ⟨w.heap.size + 1, 10, none⟩ (.string v1)).setCell ⟨w.heap.size + 1, 11, none⟩ (.string (s.extract n1 s.size)))) := by
      have a1 := PV1.out.pat 10 _ (PV1.out.pack.set_topic v1)
      exact a1.pat 11 _ (a1.pack.set_payload _)
    revert HPO
    generalize (w1.setCell ⟨w.heap.size + 1, 10, none⟩ (.string v1)).setCell ⟨w.heap.size + 1, 11, none⟩ (.string (s.extract n1 s.size)) = WX
    intro HPO
    clear PV1 qa qf y0 y1 y2 hle1
    have HIN : Hid (PkInB (w.heap.size + 1) WX ⟨3, D, R, false, false, 0, 0, 0, 0, ⟨#[]⟩, v1, s.extract n1 s.size, [], []⟩ none none) := ⟨⟨.inl rfl, .inl rfl⟩, .inl rfl, .inl rfl⟩
    obtain ⟨p, hp⟩ : ∃ p : Pk, p = ⟨3, D, R, false, false, 0, 0, 0, 0, ⟨#[]⟩, v1, s.extract n1 s.size, [], []⟩ := ⟨_, rfl⟩
    have HPQ : Hid (Po w s p (.slice none p.asks.length 0) (.slice none p.codes.length 0) n1 false WX) := by rw [hp]; exact HPO.out
    rw [← hp] at HTO HIN
    clear hp HPO
    have hsz := HPQ.out.size
    have HF := hide (HTO.out.fit rfl)
    have HSZ := hide (HTO.out.size rfl)
    have CB : Hid (∀ W, PkIn W p none none → Calls Tryz.prog 24 #[pkV p none 0 none 0] W fun e w' => e = .returned (.string (encP p)) ∧ Below W.heap.size W w') := fun W h => bytesP_any p none none 0 0 W h HF.out (Nat.le_trans HSZ.out.1 HS.out) (Nat.le_trans HSZ.out.2.1 HS.out) (Nat.le_trans HSZ.out.2.2 HS.out)
    have CC : Hid (∀ W, PkIn W p none none → Calls Tryz.prog 25 #[pkV p none 0 none 0] W fun e w' => e = .returned (.int .i64 (chkP p)) ∧ Below W.heap.size W w') := fun W h => rckP_any p none none 0 0 W h (fit_small HF.out).1 (fit_small HF.out).2
    simp only [pkV] at CB CC
    have x1 := HPQ.out.pack.cell
    obtain ⟨y0, y1, y2, _, _⟩ := HPQ.out.take.cells
    go_wp2_with fail
    refine (CB.out _ HIN.out.1).mono ?_
    rintro e w4 ⟨rfl, hb4⟩
    have HP4 := hide (HPQ.out.keep hb4)
    have HIN4 := hide (HIN.out.keep (Nat.le_refl _) hb4.size (fun k _ hk => hb4.block k hk))
    have hsz4 := HP4.out.size
    clear hb4 HPQ HIN CB x1 y0 y1 y2 hsz
    have z1 := HP4.out.zero.cell
    have z2 := HP4.out.zero.frozen
    have x1 := HP4.out.pack.cell
    by_cases heq : encP p = s
    · have HEQ : Hid (((encP p).toList == s.toList) = true) := by show _ = _; rw [txt_eq, decide_eq_true heq]
      have heq' := HEQ.out
      have HG := hide (told_good HTO.out (Nat.le_trans HS.out (by decide)) heq)
      clear heq
      go_wp2_with fail
      refine (CC.out _ HIN4.out.1).mono ?_
      rintro e w5 ⟨rfl, hb5⟩
      have HP5 := hide (HP4.out.keep hb5)
      have HIN5 := hide (HIN4.out.keep (Nat.le_refl _) hb5.size (fun k _ hk => hb5.block k hk))
      have hsz5 := HP5.out.size
      clear hb5 HP4 HIN4 CC x1 z1 z2
      have z1 := HP5.out.zero.cell
      have z2 := HP5.out.zero.frozen
      have x1 := HP5.out.pack.cell
      by_cases hc : chkP p = 0
      · have hc' : (chkP p != 0) = false := by simp [hc]
        have HC0 := hide hc
        clear hc
        go_wp2
        exact bodyPost_ret (v := .tuple #[pkV p none 0 none 0, .int .i64 (chkP p)]) (by simp [results, Tryz.results13, go_sem, pkV, zeroPk, z1, World.cell?_setCell_same]) rfl (OfPost.mk (HG.out.2.1 HC0.out) HG.out.1 rfl (po_final HIN5.out HP5.out.below (by omega) (kx14 _ _ _ _ _ _ _ _ _ _ _ _ _ _ _ _)))
      · have hc' : (chkP p != 0) = true := by simp [hc]
        have HC0 := hide hc
        clear hc
        go_wp2
        exact bodyPost_ret (v := .tuple #[pkV zeroPk none 0 none 0, .int .i64 (chkP p)]) (by simp [results, Tryz.results13, go_sem, pkV, zeroPk, z1, World.cell?_setCell_same]) rfl (OfPost.mk (HG.out.2.2 HC0.out) HG.out.1 rfl (po_zero HP5.out.below (by omega) (kx14 _ _ _ _ _ _ _ _ _ _ _ _ _ _ _ _)))
    · have HEQ : Hid (((encP p).toList == s.toList) = false) := by show _ = _; rw [txt_eq, decide_eq_false heq]
      have heq' := HEQ.out
      have HD := hide (told_bad HTO.out (.inr heq))
      clear heq
      go_wp2
      exact bodyPost_ret (v := .tuple #[pkV zeroPk none 0 none 0, .int .i64 1]) (by simp [results, Tryz.results13, go_sem, pkV, zeroPk, z1, World.cell?_setCell_same]) rfl (OfPost.mk HD.out.2 HD.out.1 rfl (po_zero HP4.out.below (by omega) (kx14 _ _ _ _ _ _ _ _ _ _ _ _ _ _ _ _)))

end Go.Proofs.YtnjdpibgfbbkcabGreatDoor
