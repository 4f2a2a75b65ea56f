/-
  dragomanref.PutOf: what it answers.
-/
import Derived.Test.YtcldjoklkbbbgadDoorKeepPutOf
namespace Go.Proofs.YtcldjoklkbbbgadDoor
open Go.RowKit Go.PlainAid

theorem box_set {W : World} {b : Nat} {x y z z' : Value} {t : TypeId} (h : W.heap[b]? = some (.cells #[x, y, z] t (0, 0))) : (W.setCell ⟨b, 2, none⟩ z').heap[b]? = some (.cells #[x, y, z'] t (0, 0)) := by
  simp [World.setCell, Array.getElem?_modify, h]

set_option maxHeartbeats 8000000 in
set_option maxRecDepth 100000 in
theorem putOf_any (l : List Kp) (n p : ByteArray) (ao : Option Addr) (co : Nat) (w : World) (hl : KpsIn w ao l) (hc : chkK l = 0) (hn : chk nameF n = 0) :
    Calls Tryd.prog 10 #[.slice ao l.length co, .string n, .string p] w (KPost w (putA l n p) (putE l n p)) := by
  have hA0 : allE l (chk nameF n) = 0 := by unfold allE; rw [if_neg (by simp [hc]), hn]
  have HE2 : Hid (200 < p.size ∨ 16 < (putL l n p).length → putE l n p = 2 ∧ putA l n p = []) := fun h2 => by
    have hE : putE l n p = 2 := by
      unfold putE
      rw [if_neg (by simp [hA0])]
      split
      · rfl
      · rw [if_pos (by omega)]
    exact ⟨hE, by unfold putA; rw [hE]; rfl⟩
  have HE3 : Hid (p.size ≤ 200 → (putL l n p).length ≤ 16 → putE l n p = 0 ∧ putA l n p = putL l n p) := fun h2 h3 => by
    have hE : putE l n p = 0 := by
      unfold putE
      rw [if_neg (by simp [hA0]), if_neg (by omega), if_neg (by omega)]
    exact ⟨hE, by unfold putA; rw [hE]; rfl⟩
  obtain ⟨h16, hall, hpw⟩ := (chkK_iff l).1 hc
  have hns := (chk_ok hn).1
  have CT : Hid (∀ k (h : k < l.length) (W : World), Calls Tryd.prog 28 #[.string n, .string l[k].topic] W fun e w' => e = .returned (.bool (tless n l[k].topic)) ∧ ∃ m, w' = W.drewN m) := fun k h W => textLess_any n l[k].topic W (by omega) (by have := (chk_ok (chkO_topic (hall _ (List.getElem_mem h))).1).1; omega)
  have HV : Hid (∀ k (h : k < l.length), 1 ≤ l[k].ver ∧ l[k].ver ≤ 16777215) := fun k h => (chkO_topic (hall _ (List.getElem_mem h))).2.2.2
  have HPW := hide hpw
  have HL := hide hl
  clear hl hc hn hall hpw hA0
  generalize putE l n p = PE at *
  generalize putA l n p = PA at *
  by_cases h2 : (200 : Int) < p.size
  · obtain ⟨x1, x2⟩ := HE2.out (.inl (by omega))
    subst x1 x2
    clear HE2 HE3 CT HV HPW HL
    go_enter Tryd.func10, Tryd.ntmps10
    go_wp2
    go_ret2
    exact ⟨_, rfl, World.ownsRow_nil _ _ _ _, Below.refl _ _⟩
  have HE3 := hide (HE3.out (by omega))
  have HE2 : Hid (16 < (putL l n p).length → PE = 2 ∧ PA = []) := fun h => HE2.out (.inr h)
  obtain ⟨T, hT⟩ : ∃ T, (p.toList == []) = T := ⟨_, rfl⟩
  have HT : Hid (T = decide (p = ⟨#[]⟩)) := by
    show _ = _
    rw [← hT]
    by_cases h : p = ⟨#[]⟩
    · rw [txt_yes (l := []) h, decide_eq_true h]
    · rw [txt_no (l := []) h, decide_eq_false h]
  have HBX : Hid ((w.alloc (.cells #[.string n, .string p, .int .i64 1] 27)).heap[w.heap.size]? = some (.cells #[.string n, .string p, .int .i64 1] 27 (0, 0))) := Go.heap_alloc_new w _
  have HB0 := hide ((Below.refl w.heap.size w).alloc (Nat.le_refl _) (.cells #[.string n, .string p, .int .i64 1] 27))
  go_enter Tryd.func10, Tryd.ntmps10
  go_wp2_with fail
  clear hT
  go_loopw [11] (fun i wr => ∃ k : Nat, k ≤ l.length ∧ i = .int .i64 k ∧ Hid (wr.heap[w.heap.size]? = some (.cells #[.string n, .string p, .int .i64 (nextV (l.take k) n)] 27 (0, 0)) ∧ Below w.heap.size w wr)) (fun i _ => l.length - (intOf i).toNat)
  case atStart => exact ⟨0, by omega, rfl, HBX.out, HB0.out⟩
  case round =>
    obtain ⟨k, hk, rfl, HR⟩ := hrel
    have hsz := HR.out.2.size
    by_cases hlt : k < l.length
    · obtain ⟨b, o, rfl, hb, hcell⟩ := kps_here HL.out hlt
      have hk1 : wr.cell? ⟨b, o + k * 3, none⟩ = some (.string l[k].topic) := by rw [HR.out.2.cell (p := ⟨b, _, none⟩) hb]; exact (hcell k hlt).1
      have hk3 : wr.cell? ⟨b, o + k * 3 + 2, none⟩ = some (.int .i64 l[k].ver) := by rw [HR.out.2.cell (p := ⟨b, _, none⟩) hb]; exact (hcell k hlt).2.2
      obtain ⟨v1, v2⟩ := HV.out k hlt
      have f2 : wr.frozen? ⟨w.heap.size, 2, none⟩ = false := Lib.frozen_of_heap HR.out.1 2
      have x2 : wr.cell? ⟨w.heap.size, 2, none⟩ = some (.int .i64 (nextV (l.take k) n)) := Lib.cell_of_heap HR.out.1 2
      have hne : b ≠ w.heap.size := by omega
      by_cases he : l[k].topic = n
      · have e1 := txt_eq l[k].topic n
        rw [decide_eq_true he] at e1
        have HN := hide (nextV_yes HPW.out hlt he)
        clear hcell he
        generalize l[k].topic = t at *
        generalize l[k].ver = v at *
        by_cases hv : 16777215 < v + 1
        · have hmin : min (v + 1) 16777215 = 16777215 := by omega
          rw [hmin] at HN
          have HZ : Hid (((wr.setCell ⟨w.heap.size, 2, none⟩ (.int .i64 (v + 1))).setCell ⟨w.heap.size, 2, none⟩ (.int .i64 16777215)).heap[w.heap.size]? = some (.cells #[.string n, .string p, .int .i64 16777215] 27 (0, 0))) := box_set (box_set HR.out.1)
          have HZB := hide ((HR.out.2.setCell (p := ⟨w.heap.size, 2, none⟩) (Nat.le_refl _) (.int .i64 (v + 1))).setCell (p := ⟨w.heap.size, 2, none⟩) (Nat.le_refl _) (.int .i64 16777215))
          go_wp2
          go_round
          case rel => exact ⟨k + 1, by omega, by go_num, by rw [HN.out]; first | exact HZ.out | (have := box_set (z' := .int .i64 16777215) HR.out.1; exact this), by first | exact HZB.out | exact HR.out.2.setCell (p := ⟨w.heap.size, 2, none⟩) (Nat.le_refl _) _⟩
          case measure => simp [intOf]; omega
        · have hmin : min (v + 1) 16777215 = v + 1 := by omega
          rw [hmin] at HN
          go_wp2
          go_round
          case rel => exact ⟨k + 1, by omega, by go_num, by rw [HN.out]; exact box_set HR.out.1, HR.out.2.setCell (p := ⟨w.heap.size, 2, none⟩) (Nat.le_refl _) _⟩
          case measure => simp [intOf]; omega
      · have e1 := txt_eq l[k].topic n
        rw [decide_eq_false he] at e1
        have HN := hide (nextV_no hlt he)
        clear hcell he
        generalize l[k].topic = t at *
        generalize l[k].ver = v at *
        go_wp2
        go_round
        case rel => exact ⟨k + 1, by omega, by go_num, by rw [HN.out]; exact HR.out.1, HR.out.2⟩
        case measure => simp [intOf]; omega
    · have hke : l.take k = l := List.take_of_length_le (by omega)
      rw [hke] at HR
      have HW := hide HR.out
      clear HR hke HBX HB0 HV
      obtain ⟨NV, hNV⟩ : ∃ NV, nextV l n = NV := ⟨_, rfl⟩
      rw [hNV] at HW
      have HNV := hide hNV
      clear hNV
      have HI0 : Hid (Px w w.heap.size (.cells #[.string n, .string p, .int .i64 NV] 27 (0, 0)) [] (.slice none 0 0) wr) := ⟨HW.out.2, HW.out.1, by simp [Value.ownBlock], World.ownsRow_nil _ _ _ _⟩
      clear HW
      go_wp2_with fail
      go_loopw [8, 10, 12] (fun a q i wr => ∃ (j : Nat) (aa : Option Addr) (ca : Nat), j ≤ l.length ∧ i = .int .i64 j ∧ a = .slice aa (outK l n p j).length ca ∧ q = .bool (putK l n p j) ∧ Hid (Px w w.heap.size (.cells #[.string n, .string p, .int .i64 NV] 27 (0, 0)) (outK l n p j) (.slice aa (outK l n p j).length ca) wr)) (fun _ _ i _ => l.length - (intOf i).toNat)
      case atStart => exact ⟨0, none, 0, by omega, rfl, by rw [outK_zero]; rfl, by rw [putK_zero, HT.out], by rw [outK_zero]; exact HI0.out⟩
      case round =>
        clear hlt hk HI0 hsz
        rename_i wr0 _ _ _ _
        obtain ⟨j, aa, ca, hj, rfl, rfl, rfl, HR⟩ := hrel
        have hol := outK_len l n p j
        have hrs := HR.out.bel.size
        by_cases hlt : j < l.length
        · obtain ⟨b, o, rfl, hb, hcell⟩ := kps_here HL.out hlt
          obtain ⟨hw1, hw2, hw3⟩ := hcell j hlt
          have hk1 := (HR.out.bel.cell (p := ⟨b, _, none⟩) hb).trans hw1
          have hk2 := (HR.out.bel.cell (p := ⟨b, _, none⟩) hb).trans hw2
          have hk3 := (HR.out.bel.cell (p := ⟨b, _, none⟩) hb).trans hw3
          have C := hide (CT.out j hlt)
          have HOE : Hid (l[j].topic = n → outK l n p (j + 1) = outK l n p j ∧ putK l n p (j + 1) = putK l n p j) := fun h => outK_eq hlt h
          have HOL : Hid (tless l[j].topic n = true → outK l n p (j + 1) = outK l n p j ++ [l[j]] ∧ putK l n p (j + 1) = putK l n p j) := fun h => outK_lt HPW.out hlt h
          have HOG := hide (fun h => outK_gt (n := n) (p := p) hlt h)
          have HTE := hide (txt_eq l[j].topic n)
          rw [HNV.out] at HOG
          clear hcell
          generalize hkk : l[j] = x at *
          clear hkk
          obtain ⟨t, py, v⟩ := x
          simp only at hk1 hk2 hk3 hw1 hw2 hw3 C HOE HOL HOG HTE
          obtain ⟨O', hO'⟩ : ∃ O', outK l n p (j + 1) = O' := ⟨_, rfl⟩
          obtain ⟨P', hP'⟩ : ∃ P', putK l n p (j + 1) = P' := ⟨_, rfl⟩
          rw [hO', hP'] at HOE HOL HOG
          have HA := hide hO'
          have HP := hide hP'
          clear hO' hP'
          generalize outK l n p j = X at *
          generalize putK l n p j = P at *
          cases P with
          | true =>
            by_cases he : t = n
            · have e1 : (t.toList == n.toList) = true := by rw [HTE.out]; simp [he]
              have HO1 : Hid (outK l n p (j + 1) = X) := by rw [HA.out]; exact (HOE.out he).1
              have HP1 : Hid (putK l n p (j + 1) = true) := by rw [HP.out]; exact (HOE.out he).2
              clear HOE HOL HOG he
              go_wp2
              go_round
              case rel => exact ⟨j + 1, aa, ca, by omega, by go_num, by rw [HO1.out], by rw [HP1.out], by rw [HO1.out]; exact HR.out⟩
              case measure => simp [intOf]; omega
            · have e1 : (t.toList == n.toList) = false := by rw [HTE.out]; simp [he]
              have HO1 : Hid (outK l n p (j + 1) = X ++ [⟨t, py, v⟩]) := by
                rw [HA.out]
                cases hB : tless n t with
                | true => exact (HOG.out hB).1 rfl
                | false => exact (HOL.out (tl_total hB (fun h => he h.symm))).1
              have HP1 : Hid (putK l n p (j + 1) = true) := by
                rw [HP.out]
                cases hB : tless n t with
                | true => exact (HOG.out hB).2.2
                | false => exact (HOL.out (tl_total hB (fun h => he h.symm))).2
              clear HOE HOL HOG he
              go_wp2_with (at_builtin; refine wpK rfl _ _ rfl rfl wr.heap.size rfl (HR.out.alloc (.cells #[.string t, .string py, .int .i64 v] 27)) ⟨t, py, v⟩ (kblk1 rfl) (by omega) ?_)
              intro g cap wz IZ
              have HIZ := hide IZ
              clear IZ
              go_wp2
              go_round
              case rel => exact ⟨j + 1, some ⟨g, 0, none⟩, cap, by omega, by go_num, by rw [HO1.out, List.length_append]; rfl, by rw [HP1.out], by rw [HO1.out, List.length_append]; exact HIZ.out⟩
              case measure => simp [intOf]; omega
          | false =>
            cases hB : tless n t with
            | true =>
              have he : t ≠ n := (tl_ne hB).symm
              have e1 : (t.toList == n.toList) = false := by rw [HTE.out]; simp [he]
              have HO1 : Hid (outK l n p (j + 1) = (X ++ [⟨n, p, NV⟩]) ++ [⟨t, py, v⟩]) := by rw [HA.out]; exact (HOG.out hB).2.1 rfl
              have HP1 : Hid (putK l n p (j + 1) = true) := by rw [HP.out]; exact (HOG.out hB).2.2
              rw [hB] at C
              clear HOE HOL HOG he hB
              go_wp2_with fail
              refine (C.out _).mono ?_
              rintro e w5 ⟨rfl, m, hm⟩
              subst hm
              have HR2 := hide (HR.out.step (drewN_below wr m))
              have g1 : (wr.drewN m).cell? ⟨b, o + j * 3, none⟩ = some (.string t) := hk1
              clear hk1 hk2 hk3 C
              generalize wr.drewN m = W5 at *
              have x0 : W5.cell? ⟨w.heap.size, 0, none⟩ = some (.string n) := HR2.out.cell 0
              have x1 : W5.cell? ⟨w.heap.size, 1, none⟩ = some (.string p) := HR2.out.cell 1
              have x2 : W5.cell? ⟨w.heap.size, 2, none⟩ = some (.int .i64 NV) := HR2.out.cell 2
              go_wp2_with (at_builtin; refine wpK rfl _ _ rfl rfl W5.heap.size rfl (HR2.out.alloc (.cells #[.string n, .string p, .int .i64 NV] 27)) ⟨n, p, NV⟩ (kblk1 rfl) (by omega) ?_)
              intro gy capy wy IY
              have HIY := hide IY
              have y1 := (IY.bel.cell (p := ⟨b, _, none⟩) hb).trans hw1
              have y2 := (IY.bel.cell (p := ⟨b, _, none⟩) hb).trans hw2
              have y3 := (IY.bel.cell (p := ⟨b, _, none⟩) hb).trans hw3
              have hyl : (X ++ [(⟨n, p, NV⟩ : Kp)]).length = X.length + 1 := by simp
              rw [← hyl] at HIY
              have HYL := hide hyl
              clear IY hyl x0 x1 x2 g1 HR2
              go_wp2_with (at_builtin; refine wpK (L := X ++ [⟨n, p, NV⟩]) rfl _ _ rfl (by rw [HYL.out]; rfl) wy.heap.size rfl (HIY.out.alloc (.cells #[.string t, .string py, .int .i64 v] 27)) ⟨t, py, v⟩ (kblk1 rfl) (by rw [HYL.out]; omega) ?_)
              intro g cap wz IZ
              have HIZ : Hid (Px w w.heap.size (.cells #[.string n, .string p, .int .i64 NV] 27 (0, 0)) ((X ++ [⟨n, p, NV⟩]) ++ [⟨t, py, v⟩]) (.slice (some ⟨g, 0, none⟩) ((X ++ [(⟨n, p, NV⟩ : Kp)]) ++ [(⟨t, py, v⟩ : Kp)]).length cap) wz) := by
                show Px _ _ _ _ _ _
                simpa using IZ
              clear IZ
              go_wp2
              go_round
              case rel => exact ⟨j + 1, some ⟨g, 0, none⟩, cap, by omega, by go_num, by rw [HO1.out]; simp, by rw [HP1.out], by rw [HO1.out]; exact HIZ.out⟩
              case measure => simp [intOf]; omega
            | false =>
              rw [hB] at C
              by_cases he : t = n
              · have e1 : (t.toList == n.toList) = true := by rw [HTE.out]; simp [he]
                have HO1 : Hid (outK l n p (j + 1) = X) := by rw [HA.out]; exact (HOE.out he).1
                have HP1 : Hid (putK l n p (j + 1) = false) := by rw [HP.out]; exact (HOE.out he).2
                clear HOE HOL HOG he hB
                go_wp2_with fail
                refine (C.out _).mono ?_
                rintro e w5 ⟨rfl, m, hm⟩
                subst hm
                have HR2 := hide (HR.out.step (drewN_below wr m))
                have g1 : (wr.drewN m).cell? ⟨b, o + j * 3, none⟩ = some (.string t) := hk1
                clear hk1 hk2 hk3 C
                generalize wr.drewN m = W5 at *
                go_wp2
                go_round
                case rel => exact ⟨j + 1, aa, ca, by omega, by go_num, by rw [HO1.out], by rw [HP1.out], by rw [HO1.out]; exact HR2.out⟩
                case measure => simp [intOf]; omega
              · have e1 : (t.toList == n.toList) = false := by rw [HTE.out]; simp [he]
                have HO1 : Hid (outK l n p (j + 1) = X ++ [⟨t, py, v⟩]) := by rw [HA.out]; exact (HOL.out (tl_total hB (fun h => he h.symm))).1
                have HP1 : Hid (putK l n p (j + 1) = false) := by rw [HP.out]; exact (HOL.out (tl_total hB (fun h => he h.symm))).2
                clear HOE HOL HOG he hB
                go_wp2_with fail
                refine (C.out _).mono ?_
                rintro e w5 ⟨rfl, m, hm⟩
                subst hm
                have HR2 := hide (HR.out.step (drewN_below wr m))
                have g1 : (wr.drewN m).cell? ⟨b, o + j * 3, none⟩ = some (.string t) := hk1
                have g2 : (wr.drewN m).cell? ⟨b, o + j * 3 + 1, none⟩ = some (.string py) := hk2
                have g3 : (wr.drewN m).cell? ⟨b, o + j * 3 + 2, none⟩ = some (.int .i64 v) := hk3
                clear hk1 hk2 hk3 C
                generalize wr.drewN m = W5 at *
                go_wp2_with (at_builtin; refine wpK rfl _ _ rfl rfl W5.heap.size rfl (HR2.out.alloc (.cells #[.string t, .string py, .int .i64 v] 27)) ⟨t, py, v⟩ (kblk1 rfl) (by omega) ?_)
                intro g cap wz IZ
                have HIZ := hide IZ
                clear IZ
                go_wp2
                go_round
                case rel => exact ⟨j + 1, some ⟨g, 0, none⟩, cap, by omega, by go_num, by rw [HO1.out, List.length_append]; rfl, by rw [HP1.out], by rw [HO1.out, List.length_append]; exact HIZ.out⟩
                case measure => simp [intOf]; omega
        · obtain rfl : j = l.length := by omega
          obtain ⟨hE1, hE2⟩ := outK_end l n p
          have HO1 := hide hE1
          have HO2 := hide hE2
          rw [HNV.out] at HO2
          clear hE1 hE2 CT HPW HL
          generalize outK l n p l.length = X at *
          generalize putK l n p l.length = P at *
          generalize putL l n p = PL at *
          cases P with
          | true =>
            obtain rfl := HO1.out rfl
            clear HO1 HO2
            by_cases h5 : (16 : Int) < X.length
            · obtain ⟨x1, x2⟩ := HE2.out (by omega)
              subst x1 x2
              go_wp2
              go_ret2
              exact ⟨_, rfl, World.ownsRow_nil _ _ _ _, HR.out.bel⟩
            · obtain ⟨x1, x2⟩ := HE3.out (by omega)
              subst x1
              have HX2 := hide x2
              clear x2
              go_wp2
              go_ret2
              exact ⟨_, rfl, by rw [HX2.out]; exact HR.out.row, HR.out.bel⟩
          | false =>
            have HO3 : Hid (X ++ [⟨n, p, NV⟩] = PL) := HO2.out rfl
            clear HO1 HO2
            have x0 : wr.cell? ⟨w.heap.size, 0, none⟩ = some (.string n) := HR.out.cell 0
            have x1 : wr.cell? ⟨w.heap.size, 1, none⟩ = some (.string p) := HR.out.cell 1
            have x2 : wr.cell? ⟨w.heap.size, 2, none⟩ = some (.int .i64 NV) := HR.out.cell 2
            go_wp2_with (at_builtin; refine wpK rfl _ _ rfl rfl wr.heap.size rfl (HR.out.alloc (.cells #[.string n, .string p, .int .i64 NV] 27)) ⟨n, p, NV⟩ (kblk1 rfl) (by omega) ?_)
            intro g cap wz IZ
            have HIZ := hide IZ
            have hpl : PL.length = X.length + 1 := by rw [← HO3.out]; simp
            rw [HO3.out, ← hpl] at HIZ
            clear IZ x0 x1 x2
            by_cases h5 : (16 : Int) < X.length + 1
            · obtain ⟨y1, y2⟩ := HE2.out (by omega)
              subst y1 y2
              go_wp2
              go_ret2
              exact ⟨_, rfl, World.ownsRow_nil _ _ _ _, HIZ.out.bel⟩
            · obtain ⟨y1, y2⟩ := HE3.out (by omega)
              subst y1
              have HX2 := hide y2
              have HPLL := hide hpl
              clear y2 hpl
              go_wp2
              go_ret2
              exact ⟨_, rfl, by rw [HX2.out, ← HPLL.out]; exact HIZ.out.row, HIZ.out.bel⟩
end Go.Proofs.YtcldjoklkbbbgadDoor
