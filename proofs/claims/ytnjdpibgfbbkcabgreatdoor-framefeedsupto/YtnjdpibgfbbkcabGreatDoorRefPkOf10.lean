/-
  The reference's PacketOf: kind 10.
-/
import Derived.Test.YtnjdpibgfbbkcabGreatDoorRefPkOfRows
namespace Go.Proofs.YtnjdpibgfbbkcabGreatDoor
open Go.RowKit Go.PlainAid Go.Deep

set_option maxHeartbeats 8000000 in
set_option maxRecDepth 100000 in
theorem po_10 (s : ByteArray) (w : World) (hs : s.size ≤ 1048576) (hlen : lenOk s = true) (hk : bt s 0 / 16 = 10) :
    Calls Tryz.prog 13 #[.string s] w (OfPost s w) := by
  have hs' : s.size ≤ maxLen := by unfold maxLen; omega
  obtain ⟨u, hu, he, hu1, hu4, hus, hv⟩ := lenOk_ok hlen
  have hpos : 0 < s.size := by omega
  have hse := str_some hpos
  have hix := get_bt s 0 hpos
  have HC : Hid (∀ W, Calls Tryz.prog 12 #[.string s, .int .i64 1] W fun e w' => e = .returned (.tuple #[.int .i64 ((s.size : Int) - 1 - u), .int .i64 u, .int .i64 0]) ∧ w' = W) := fun W => by
    have := getLongOf_any s 1 W hs'
    rwa [hu, he, hv] at this
  have HNN : Hid (1 + u = 1 + (glR s 1).2.1.toNat) := by show _ = _; rw [hu]; rfl
  obtain ⟨T1, hT1⟩ : ∃ T, tN s (1 + u) 2 false = T := ⟨_, rfl⟩
  have C1 : Hid (∀ W, Tk (w.heap.size + 1 + 1) s (1 + u) false W → Calls Tryz.prog 23 #[.pointer (some ⟨w.heap.size + 1 + 1, 0, none⟩), .int .i64 2] W fun e w' => e = .returned (.int .i64 T1.1) ∧ Tk (w.heap.size + 1 + 1) s T1.2.1 T1.2.2 w' ∧ Kx (w.heap.size + 1 + 1) (w.heap.size + 1 + 1) W w') := fun W h => by have := tnumber_any (w.heap.size + 1 + 1) s (1 + u) 2 false W hs' h; rwa [hT1] at this
  have hle1 : T1.2.1 ≤ s.size := by rw [← hT1]; exact tN_le (by decide) (by omega)
  obtain ⟨R, hR⟩ : ∃ R, xAsks s 10 (s.size + 1) T1.2.1 T1.2.2 [] = R := ⟨_, rfl⟩
  have HTO : Hid (Told s ⟨10, false, false, false, false, 0, T1.1, 0, 0, ⟨#[]⟩, ⟨#[]⟩, ⟨#[]⟩, R.1, []⟩ R.2.2) := told_asks (.inr rfl) (by omega) hk HNN.out (by omega) hT1 hR
  have HRR := hide hR
  clear hT1 hR
  obtain ⟨v1, n1, b1⟩ := T1
  simp only at HTO C1 hle1 HRR
  have HW := hide (po_start w s 10 u)
  obtain ⟨b, hb⟩ : ∃ b : Nat, (bt s 0).toNat = b := ⟨_, rfl⟩
  have hbb : bt s 0 = (b : Int) := by have := bt_nonneg s 0; omega
  have hbl : (b : Int) ≤ 255 := hbb ▸ bt_le s 0
  rw [hbb] at hix hk
  have hne : ((1 + (u : Int) + ((s.size : Int) - 1 - u)) != (s.size : Int)) = false := by simp; omega
  have HS := hide hs
  have hsu : (s.size : Int) ≤ 1048576 := by omega
  have hu4' : (u : Int) ≤ 4 := by omega
  clear hlen hu he hv hb hbb hs
  go_enter Tryz.func13, Tryz.ntmps13
  go_upto_region 9 with (first | (go_at_call 12; refine (HC.out _).mono ?_; rintro x w' ⟨rfl, rfl⟩) | (go_at_call 21; refine (between_yes _ _ _ _ (by omega)).mono ?_; rintro x w' ⟨rfl, rfl⟩) | (go_at_call 21; refine (between_no _ _ _ _ (by omega)).mono ?_; rintro x w' ⟨rfl, rfl⟩))
  revert HW
  generalize ((w.alloc (.cells #[.int .i64 0, .bool false, .bool false, .bool false, .bool false, .int .i64 0, .int .i64 0, .int .i64 0, .int .i64 0, .string ⟨#[]⟩, .string ⟨#[]⟩, .string ⟨#[]⟩, .slice none 0 0, .slice none 0 0] 35)).alloc (.cells #[.int .i64 10, .bool false, .bool false, .bool false, .bool false, .int .i64 0, .int .i64 0, .int .i64 0, .int .i64 0, .string ⟨#[]⟩, .string ⟨#[]⟩, .string ⟨#[]⟩, .slice none 0 0, .slice none 0 0] 35)).alloc (.cells #[.string s, .int .i64 (1 + (u : Int)), .bool false] 52) = W0
  intro HW
  go_wp2_with fail
  refine (C1.out _ (HW.out).take).mono ?_
  rintro e w1 ⟨rfl, ht1, hk1⟩
  have PV1 := hide ((HW.out).took ht1 hk1)
  clear ht1 hk1 HW
  have q1 := PV1.out.pack.frozen 6
  have qc1 := PV1.out.pack.cell 6
  go_upto_region 35 with fail
  have HPO : Hid (Pl w s ⟨10, false, false, false, false, 0, v1, 0, 0, ⟨#[]⟩, ⟨#[]⟩, ⟨#[]⟩, [], []⟩ (.slice none 0 0) (.slice none 0 0) 56 2 (.slice none 0 0) 0 [] n1 b1 (w1.setCell ⟨w.heap.size + 1, 6, none⟩ (.int .i64 v1))) := ⟨PV1.out.pat 6 _ (PV1.out.pack.set_id v1), World.ownsRow_nil _ _ _ _⟩
  revert HPO
  generalize w1.setCell ⟨w.heap.size + 1, 6, none⟩ (.int .i64 v1) = WX
  intro HPO
  clear PV1 q1 qc1 C1 HC
  go_loopg [116] (s.size + 1) (fun f _ wr => ∃ (m : Nat) (bd : Bool) (L : List (ByteArray × Int)) (co : Nat) (ao : Option Addr), m ≤ s.size ∧ Hid (Pl w s ⟨10, false, false, false, false, 0, v1, 0, 0, ⟨#[]⟩, ⟨#[]⟩, ⟨#[]⟩, [], []⟩ (.slice ao L.length co) (.slice none 0 0) 56 2 (.slice ao L.length co) L.length (askCells L) m bd wr ∧ xAsks s 10 f m bd L = R ∧ (bd = true ∨ s.size - m < f) ∧ L.length + f ≤ s.size + 1))
  case atStart => exact ⟨n1, b1, [], 0, none, hle1, HPO.out, HRR.out, by omega, by simp⟩
  case round =>
    obtain ⟨m, bd, L, co, ao, hm, HI⟩ := hrel
    obtain ⟨h0, h1, h2, h3, h4⟩ := HI.out.1.po.take.cells
    by_cases hgo : bd = false ∧ m < s.size
    · obtain ⟨hbd, hlt⟩ := hgo
      subst hbd
      have hk0 : 0 < gk := by have := HI.out.2.2.1; simp at this; omega
      obtain ⟨f, hf⟩ : ∃ f, gk = f + 1 := ⟨gk - 1, by omega⟩
      have HF := hide hf
      have HM : Hid (s.size - m < gk) := by have := HI.out.2.2.1; simp at this; exact this
      obtain ⟨T, hT⟩ : ∃ T, tT s m false = T := ⟨_, rfl⟩
      have HTL : Hid (T.2.2 = false → m < T.2.1) := fun h => by rw [← hT] at h ⊢; have := (tT_forth h).2.1; omega
      have hTe : T.2.1 ≤ s.size := by rw [← hT]; exact tT_le hm
      have HRF : Hid (xAsks s 10 f T.2.1 T.2.2 (L ++ [(T.1, 0)]) = R) := by
        have := HI.out.2.1
        rw [hf, xAsks, if_pos ⟨rfl, hlt⟩, if_neg (by decide), hT] at this
        exact this
      have CT : Hid (∀ W, Tk (w.heap.size + 1 + 1) s m false W → Calls Tryz.prog 22 #[.pointer (some ⟨w.heap.size + 1 + 1, 0, none⟩)] W fun e w' => e = .returned (.string T.1) ∧ Tk (w.heap.size + 1 + 1) s T.2.1 T.2.2 w' ∧ Kx (w.heap.size + 1 + 1) (w.heap.size + 1 + 1) W w') := fun W h => by have := ttext_any (w.heap.size + 1 + 1) s m false W hs' hm h; rwa [hT] at this
      clear hT
      obtain ⟨tx, mT, bT⟩ := T
      simp only at HTL hTe HRF CT
      have HLL : Hid (L.length + gk ≤ s.size + 1) := HI.out.2.2.2
      have hlt' : (m : Int) < s.size := by omega
      have HPL := hide HI.out.1
      have HLk : Hid (L.length ≤ 1048576) := by have := HLL.out; have := HS.out; show _ ≤ _; omega
      clear HI hf hk0
      go_wp2_with fail
      refine (CT.out _ HPL.out.po.take).mono ?_
      rintro e wc ⟨rfl, htc, hkc⟩
      have HPC := hide (HPL.out.took htc hkc)
      clear htc hkc HPL CT
      go_upto_region 39 with fail
      have HPA := hide (HPC.out.alloc (.cells #[.string tx, .int .i64 0] 56))
      have HNB : Hid ((wc.alloc (.cells #[.string tx, .int .i64 0] 56)).heap[wc.heap.size]? = some (.cells #[.string tx, .int .i64 0] 56 (0, 0))) := Go.heap_alloc_new wc _
      have hsc := HPC.out.po.size
      have HNG : Hid ((Value.slice ao L.length co).ownBlock ≠ some wc.heap.size) := fun e => by have := (own_lt HPC.out.own _ e).2; omega
      revert HPA HNB
      generalize wc.alloc (.cells #[.string tx, .int .i64 0] 56) = WA
      generalize wc.heap.size = ga at *
      intro HPA HNB
      clear HPC
      go_upto_region 41 with fail
      have p12 : WA.cell? ⟨w.heap.size + 1, 12, none⟩ = some (.slice ao L.length co) := HPA.out.po.pack.cell 12
      have a0 : WA.cell? ⟨ga, 0, none⟩ = some (.string tx) := by rw [Lib.cell_of_heap HNB.out]; rfl
      have a1 : WA.cell? ⟨ga, 1, none⟩ = some (.int .i64 0) := by rw [Lib.cell_of_heap HNB.out]; rfl
      go_wp2_with (at_builtin; refine wpAsk (by rfl) _ _ (by rfl) L (by rfl) _ (by rfl) (HPA.out.alloc _) tx 0 (by exact Go.heap_alloc_new _ _) HLk.out ?_; intro g cap wb HB; have kb12 : wb.cell? ⟨w.heap.size + 1, 12, none⟩ = some (.slice ao L.length co) := HB.po.pack.cell 12; have kbf : wb.frozen? ⟨w.heap.size + 1, 12, none⟩ = false := HB.po.pack.frozen 12)
      have HN := hide (HB.put12)
      clear HB HPA HNB p12 a0 a1
      go_wp2
      go_roundg f
      case measure => have := HF.out; omega
      case rel => exact ⟨mT, bT, L ++ [(tx, 0)], cap, some ⟨g, 0, none⟩, hTe, by have := HN.out; rw [List.length_append] at this ⊢; exact this, HRF.out, by (cases bT with | true => exact .inl rfl | false => have := HTL.out rfl; have := HM.out; have := HF.out; exact .inr (by omega)), by have := HLL.out; have := HF.out; rw [List.length_append]; simp; omega⟩
    · have hRL : (L, m, bd) = R := by rw [← xAsks_end (s := s) (k := 10) (f := gk) (l := L) hgo]; exact HI.out.2.1
      have HTL : Hid (Told s ⟨10, false, false, false, false, 0, v1, 0, 0, ⟨#[]⟩, ⟨#[]⟩, ⟨#[]⟩, L, []⟩ bd) := by have := HTO.out; rw [← hRL] at this; exact this
      have HPO : Hid (Po w s ⟨10, false, false, false, false, 0, v1, 0, 0, ⟨#[]⟩, ⟨#[]⟩, ⟨#[]⟩, L, []⟩ (.slice ao L.length co) (.slice none 0 0) m bd wr) := ⟨HI.out.1.po.zero, HI.out.1.po.pack, HI.out.1.po.take, HI.out.1.po.below, HI.out.1.po.size⟩
      have HIN : Hid (PkInB (w.heap.size + 1) wr ⟨10, false, false, false, false, 0, v1, 0, 0, ⟨#[]⟩, ⟨#[]⟩, ⟨#[]⟩, L, []⟩ ao none) := ⟨⟨own_asks HI.out.1.own, .inl rfl⟩, (own_ge HI.out.1.own).imp id fun ⟨b, o, x, y⟩ => ⟨b, o, x, by omega⟩, .inl rfl⟩
      clear HTO HRR HI hRL h0 h1 h2 h3 h4
      have HTO := HTL
      clear HTL
      cases bd with
      | true =>
        obtain ⟨p, hp⟩ : ∃ p : Pk, p = ⟨10, false, false, false, false, 0, v1, 0, 0, ⟨#[]⟩, ⟨#[]⟩, ⟨#[]⟩, L, []⟩ := ⟨_, rfl⟩
        have HPQ : Hid (Po w s p (.slice ao p.asks.length co) (.slice none p.codes.length 0) m true wr) := by rw [hp]; exact HPO.out
        rw [← hp] at HTO HIN
        clear hp HPO
        have hsz := HPQ.out.size
        have HD := hide (told_bad HTO.out (.inl rfl))
        have z1 := HPQ.out.zero.cell
        have z2 := HPQ.out.zero.frozen
        obtain ⟨y0, y1, y2, _, _⟩ := HPQ.out.take.cells
        go_wp2
        exact bodyPost_ret (v := .tuple #[pkV zeroPk none 0 none 0, .int .i64 1]) (by simp [results, Tryz.results13, go_sem, pkV, zeroPk, z1, World.cell?_setCell_same]) rfl (OfPost.mk HD.out.2 HD.out.1 rfl (po_zero HPQ.out.below (by omega) (kx14 _ _ _ _ _ _ _ _ _ _ _ _ _ _ _ _)))
      | false =>
        have hge : ¬ m < s.size := fun h => hgo ⟨rfl, h⟩
        have hge2 : (s.size : Int) ≤ m := by omega
        have hd : decide ((m : Int) < (s.size : Int)) = false := by simp only [decide_eq_false_iff_not]; omega
        obtain ⟨p, hp⟩ : ∃ p : Pk, p = ⟨10, false, false, false, false, 0, v1, 0, 0, ⟨#[]⟩, ⟨#[]⟩, ⟨#[]⟩, L, []⟩ := ⟨_, rfl⟩
        have HPQ : Hid (Po w s p (.slice ao p.asks.length co) (.slice none p.codes.length 0) m false wr) := by rw [hp]; exact HPO.out
        rw [← hp] at HTO HIN
        clear hp HPO
        have hsz := HPQ.out.size
        have HF := hide (HTO.out.fit rfl)
        have HSZ := hide (HTO.out.size rfl)
        have CB : Hid (∀ W, PkIn W p ao none → Calls Tryz.prog 24 #[pkV p ao co none 0] W fun e w' => e = .returned (.string (encP p)) ∧ Below W.heap.size W w') := fun W h => bytesP_any p ao none co 0 W h HF.out (Nat.le_trans HSZ.out.1 HS.out) (Nat.le_trans HSZ.out.2.1 HS.out) (Nat.le_trans HSZ.out.2.2 HS.out)
        have CC : Hid (∀ W, PkIn W p ao none → Calls Tryz.prog 25 #[pkV p ao co none 0] W fun e w' => e = .returned (.int .i64 (chkP p)) ∧ Below W.heap.size W w') := fun W h => rckP_any p ao none co 0 W h (fit_small HF.out).1 (fit_small HF.out).2
        simp only [pkV] at CB CC
        have x1 := HPQ.out.pack.cell
        obtain ⟨y0, y1, y2, _, _⟩ := HPQ.out.take.cells
        go_wp2_with fail
        refine (CB.out _ HIN.out.1).mono ?_
        rintro e w4 ⟨rfl, hb4⟩
        have HP4 := hide (HPQ.out.keep hb4)
        have HIN4 := hide (HIN.out.keep (Nat.le_refl _) hb4.size (fun k _ hk => hb4.block k hk))
        have hsz4 := HP4.out.size
        clear hb4 HPQ HIN CB x1 y0 y1 y2 hsz
        have z1 := HP4.out.zero.cell
        have z2 := HP4.out.zero.frozen
        have x1 := HP4.out.pack.cell
        by_cases heq : encP p = s
        · have HEQ : Hid (((encP p).toList == s.toList) = true) := by show _ = _; rw [txt_eq, decide_eq_true heq]
          have heq' := HEQ.out
          have HG := hide (told_good HTO.out (Nat.le_trans HS.out (by decide)) heq)
          clear heq
          go_wp2_with fail
          refine (CC.out _ HIN4.out.1).mono ?_
          rintro e w5 ⟨rfl, hb5⟩
          have HP5 := hide (HP4.out.keep hb5)
          have HIN5 := hide (HIN4.out.keep (Nat.le_refl _) hb5.size (fun k _ hk => hb5.block k hk))
          have hsz5 := HP5.out.size
          clear hb5 HP4 HIN4 CC x1 z1 z2
          have z1 := HP5.out.zero.cell
          have z2 := HP5.out.zero.frozen
          have x1 := HP5.out.pack.cell
          by_cases hc : chkP p = 0
          · have hc' : (chkP p != 0) = false := by simp [hc]
            have HC0 := hide hc
            clear hc
            go_wp2
            exact bodyPost_ret (v := .tuple #[pkV p ao co none 0, .int .i64 (chkP p)]) (by simp [results, Tryz.results13, go_sem, pkV, zeroPk, z1, World.cell?_setCell_same]) rfl (OfPost.mk (HG.out.2.1 HC0.out) HG.out.1 rfl (po_final HIN5.out HP5.out.below (by omega) (kx14 _ _ _ _ _ _ _ _ _ _ _ _ _ _ _ _)))
          · have hc' : (chkP p != 0) = true := by simp [hc]
            have HC0 := hide hc
            clear hc
            go_wp2
            exact bodyPost_ret (v := .tuple #[pkV zeroPk none 0 none 0, .int .i64 (chkP p)]) (by simp [results, Tryz.results13, go_sem, pkV, zeroPk, z1, World.cell?_setCell_same]) rfl (OfPost.mk (HG.out.2.2 HC0.out) HG.out.1 rfl (po_zero HP5.out.below (by omega) (kx14 _ _ _ _ _ _ _ _ _ _ _ _ _ _ _ _)))
        · have HEQ : Hid (((encP p).toList == s.toList) = false) := by show _ = _; rw [txt_eq, decide_eq_false heq]
          have heq' := HEQ.out
          have HD := hide (told_bad HTO.out (.inr heq))
          clear heq
          go_wp2
          exact bodyPost_ret (v := .tuple #[pkV zeroPk none 0 none 0, .int .i64 1]) (by simp [results, Tryz.results13, go_sem, pkV, zeroPk, z1, World.cell?_setCell_same]) rfl (OfPost.mk HD.out.2 HD.out.1 rfl (po_zero HP4.out.below (by omega) (kx14 _ _ _ _ _ _ _ _ _ _ _ _ _ _ _ _)))
end Go.Proofs.YtnjdpibgfbbkcabGreatDoor
