/-
  SessionHolds: the walk through the law, by the contracts of what it calls.
-/
import Derived.Test.YtnhcecgmcmcioaaDoorSesHoldBase
import Derived.Deep.QuietTactic
import Derived.BigQuiet
namespace Go.Proofs.YtnhcecgmcmcioaaDoor
open Go.RowKit Go.PlainAid

theorem ints_here {w : World} {ao : Option Addr} {l : List Int} {k : Nat} (h : IntsIn w ao l) (hlt : k < l.length) : ∃ b o, ao = some ⟨b, o, none⟩ ∧ b < w.heap.size ∧ ∀ i (h : i < l.length), w.cell? ⟨b, o + i, none⟩ = some (.int .i64 l[i]) := by
  rcases h with rfl | h
  · simp at hlt
  · exact h

set_option maxHeartbeats 40000000 in
set_option maxRecDepth 100000 in
theorem sessionHolds_walk (cl : Bool) (P : List ByteArray) (D : List Int) (away : Int) (ap ad : Option Addr) (cp cd : Nat) (w : World) (hp : StrsIn w ap P) (hd : IntsIn w ad D) (hm : Max w) :
    Calls Tryd.prog 4 #[.bool cl, .slice ap P.length cp, .slice ad D.length cd, .int .i64 away] w fun e w' => e = .returned (.bool true) ∧ Below w.heap.size w w' := by
  have C0 := hide (sessionBegun_yes w hm)
  have HP := hide hp
  have HD := hide hd
  have HM := hide hm
  clear hp hd hm
  go_enter Tryd.func4, Tryd.ntmps4
  go_wp2_with fail
  refine C0.out.mono ?_
  rintro e w1 ⟨rfl, hb1⟩
  have HB1 := hide hb1
  clear hb1 C0
  go_upto_region 5 with fail
  have HI : Hid (Hw w1.heap.size ⟨⟨#[97, 110, 110]⟩, true, cl, [], [], 1⟩ none 0 none 0 [] none 0 w (w1.alloc (.cells #[.string ⟨#[97, 110, 110]⟩, .bool true, .bool cl, .slice none 0 0, .slice none 0 0, .int .i64 1] 24))) :=
    ⟨sat_new _ _ _ w1, .inl rfl, .inl rfl, Nat.le_refl _, Nat.le_refl _, World.ownsRow_nil _ _ _ _, HB1.out.alloc HB1.out.size _, HB1.out.size⟩
  revert HI
  generalize w1.alloc (.cells #[.string ⟨#[97, 110, 110]⟩, .bool true, .bool cl, .slice none 0 0, .slice none 0 0, .int .i64 1] 24) = W0
  clear HB1
  generalize w1.heap.size = b at *
  intro HI
  go_wp2
  go_loopw [10, 11] (fun x i wr => ∃ (k : Nat) (s : Se) (a1 : Option Addr) (c1 : Nat) (a2 : Option Addr) (c2 : Nat) (A : List ByteArray) (aa : Option Addr) (ca : Nat), i = .int .i64 k ∧ k ≤ P.length ∧ x = .slice aa A.length ca ∧ Hid (Hw b s a1 c1 a2 c2 A aa ca w wr ∧ Good cl s ∧ A = loads s)) (fun _ i _ => P.length - (intOf i).toNat)
  case atStart => exact ⟨0, _, none, 0, none, 0, [], none, 0, rfl, Nat.zero_le _, rfl, HI.out, good_0 cl, rfl⟩
  case round =>
    obtain ⟨k, s, a1, c1, a2, c2, A, aa, ca, rfl, hk, rfl, HR⟩ := hrel
    clear HI
    by_cases hlt : k < P.length ∧ k < 40
    · obtain ⟨hlt, h40⟩ := hlt
      obtain ⟨pb, po, rfl, hpb, hpc⟩ := strs_here HP.out hlt
      have hpk : Hid (∀ V, Below w.heap.size w V → V.cell? ⟨pb, po + k, none⟩ = some (.string P[k])) := fun V h => (h.cell (p := ⟨pb, _, none⟩) hpb).trans (hpc k hlt)
      have hq := hpk.out _ HR.out.1.bel
      have hlt' : (k : Int) < P.length := by omega
      have h40' : (k : Int) < 40 := by omega
      generalize P[k] = p at *
      clear hpc
      by_cases hbig : (200 : Int) < p.size
      · go_wp2
        go_round
        case rel => exact ⟨k + 1, s, a1, c1, a2, c2, A, aa, ca, by go_num, by omega, rfl, HR⟩
        case measure => simp [intOf]; omega
      · have hps : p.size ≤ 200 := by omega
        obtain ⟨T, hT⟩ : ∃ T, ((k : Int) == away) = T := ⟨_, rfl⟩
        go_upto_if 48 with fail
        clear hT
        go_cut [10] (fun x wr => ∃ (s : Se) (a1 : Option Addr) (c1 : Nat) (a2 : Option Addr) (c2 : Nat) (A : List ByteArray) (aa : Option Addr) (ca : Nat), x = .slice aa A.length ca ∧ Hid (Hw b s a1 c1 a2 c2 A aa ca w wr ∧ Good cl s ∧ A = loads s))
        case first =>
          as_aux_lemma =>
            cases T with
            | false =>
              go_wp2
              go_meet
              case rel => exact ⟨s, a1, c1, a2, c2, A, aa, ca, rfl, HR⟩
            | true =>
              obtain ⟨g1, g2, g3, g4⟩ := go_good HR.out.2.1
              have CG : Hid (∀ V, Below w.heap.size w V → SeIn V s a1 a2 → Calls Tryd.prog 8 #[.agg #[.string s.client, .bool s.on, .bool s.clean, .slice a1 s.fl.length c1, .slice a2 s.qu.length c2, .int .i64 s.next]] V fun e w' => ∃ a1 c1 a2 c2, e = .returned (.tuple #[.agg #[.string (goR s).client, .bool (goR s).on, .bool (goR s).clean, .slice a1 (goR s).fl.length c1, .slice a2 (goR s).qu.length c2, .int .i64 (goR s).next], .int .i64 0]) ∧ OutS V.heap.size (goR s, []) a1 c1 a2 c2 none 0 w' ∧ Below V.heap.size V w') := fun V h hs => by
                have := go_any s a1 a2 c1 c2 V hs HR.out.1.cf (HM.out.below h)
                rw [g1] at this
                exact this
              have CK : Hid (∀ V a1 c1 a2 c2, Below w.heap.size w V → SeIn V (goR s) a1 a2 → (goR s).fl.length ≤ c1 → Calls Tryd.prog 16 #[.agg #[.string (goR s).client, .bool (goR s).on, .bool (goR s).clean, .slice a1 (goR s).fl.length c1, .slice a2 (goR s).qu.length c2, .int .i64 (goR s).next]] V fun e w' => e = .returned (.int .i64 0) ∧ Below V.heap.size V w') := fun V a1 c1 a2 c2 h hs hc => by
                have := scheck_any (goR s) a1 a2 c1 c2 V hs hc (HM.out.below h)
                rw [g2] at this
                exact this
              have CC : Hid (∀ V a1 c1 a2 c2, Below w.heap.size w V → SeIn V (goR s) a1 a2 → (goR s).fl.length ≤ c1 → Calls Tryd.prog 7 #[.agg #[.string (goR s).client, .bool (goR s).on, .bool (goR s).clean, .slice a1 (goR s).fl.length c1, .slice a2 (goR s).qu.length c2, .int .i64 (goR s).next]] V (SPost 0 (comeR (goR s)) V)) := fun V a1 c1 a2 c2 h hs hc => by
                have := come_any (goR s) a1 a2 c1 c2 V hs hc (HM.out.below h)
                rw [g2] at this
                exact this
              have HG3 := hide g3
              have HG4 := hide g4
              have HA := hide HR.out.2.2
              have HW := hide HR.out.1
              clear HR g1 g2 g3 g4 hpk hq
              generalize goR s = sg at *
              generalize comeR sg = R at *
              have x1 := HW.out.box.cell
              go_wp2_with fail
              refine (CG.out _ HW.out.bel HW.out.inn).mono ?_
              rintro e w2 ⟨e1, f1, e2, f2, rfl, ho, hb⟩
              have HW2 := hide (HW.out.step hb)
              have HO2 := hide ho
              clear ho hb x1 HW CG
              go_upto_region 11 with fail
              have HW3 := hide (HW2.out.alloc (.cells #[.string sg.client, .bool sg.on, .bool sg.clean, .slice e1 sg.fl.length f1, .slice e2 sg.qu.length f2, .int .i64 sg.next] 24))
              have HO3 := hide (HO2.out.below (W' := w2.alloc (.cells #[.string sg.client, .bool sg.on, .bool sg.clean, .slice e1 sg.fl.length f1, .slice e2 sg.qu.length f2, .int .i64 sg.next] 24)) ((Below.refl _ w2).alloc (Nat.le_refl _) _))
              have D3 := hide (sat_new sg (.slice e1 sg.fl.length f1) (.slice e2 sg.qu.length f2) w2)
              revert HW3 HO3 D3
              generalize w2.alloc (.cells #[.string sg.client, .bool sg.on, .bool sg.clean, .slice e1 sg.fl.length f1, .slice e2 sg.qu.length f2, .int .i64 sg.next] 24) = W3
              generalize w2.heap.size = b3 at *
              intro HW3 HO3 D3
              clear HW2 HO2
              have x1 := D3.out.cell
              go_wp2_with fail
              refine (CK.out _ _ _ _ _ HW3.out.bel HO3.out.inn HO3.out.cf).mono ?_
              rintro e w4 ⟨rfl, hb⟩
              have HW4 := hide (HW3.out.step hb)
              have HO4 := hide (HO3.out.below hb)
              have D4 := hide (D3.out.after hb)
              clear hb x1 HW3 HO3 D3 CK
              have x1 := D4.out.cell
              go_wp2_with fail
              refine (CC.out _ _ _ _ _ HW4.out.bel HO4.out.inn HO4.out.cf).mono ?_
              rintro e w5 ⟨h1, i1, h2, i2, ao, cs, rfl, ho, hb⟩
              have hbl := HW4.out.box.lt
              have HW5 := hide (HW4.out.step hb)
              have HO5 := hide ho
              clear ho hb x1 HW4 HO4 D4 CC
              go_upto_region 16 with fail
              have HW6 := hide (HW5.out.alloc (.cells #[.string R.1.client, .bool R.1.on, .bool R.1.clean, .slice h1 R.1.fl.length i1, .slice h2 R.1.qu.length i2, .int .i64 R.1.next] 24))
              have HO6 := hide (HO5.out.below (W' := w5.alloc (.cells #[.string R.1.client, .bool R.1.on, .bool R.1.clean, .slice h1 R.1.fl.length i1, .slice h2 R.1.qu.length i2, .int .i64 R.1.next] 24)) ((Below.refl _ w5).alloc (Nat.le_refl _) _))
              have D6 := hide (sat_new R.1 (.slice h1 R.1.fl.length i1) (.slice h2 R.1.qu.length i2) w5)
              revert HW6 HO6 D6
              generalize w5.alloc (.cells #[.string R.1.client, .bool R.1.on, .bool R.1.clean, .slice h1 R.1.fl.length i1, .slice h2 R.1.qu.length i2, .int .i64 R.1.next] 24) = W6
              generalize w5.heap.size = b6 at *
              intro HW6 HO6 D6
              clear HW5 HO5
              have x1 := D6.out.cell
              have y1 := HW6.out.box.cell
              have y2 := HW6.out.box.frozen
              have HW7 := hide (HW6.out.put HO6.out.fl HO6.out.qu HO6.out.cf HO6.out.cq hbl)
              clear HW6 HO6 D6
              cases cl with
              | true =>
                go_wp2
                go_meet
                case rel => exact ⟨R.1, h1, i1, h2, i2, [], none, 0, rfl, HW7.out.nil, HG3.out, by rw [HG4.out]; rfl⟩
              | false =>
                go_wp2
                go_meet
                case rel => exact ⟨R.1, h1, i1, h2, i2, A, aa, ca, rfl, HW7.out, HG3.out, by rw [HG4.out, HA.out]; rfl⟩
        case rest =>
          clear HR hq
          obtain ⟨s, a1, c1, a2, c2, A, aa, ca, rfl, HX⟩ := hcut
          obtain ⟨g1, g2, g3⟩ := send_good HX.out.2.1 hps
          obtain ⟨g4, g5, g6⟩ := good_len HX.out.2.1
          have HG2 := hide g2
          have HG3 := hide g3
          have HG6 := hide g6
          have CS : Hid (∀ V, Below w.heap.size w V → SeIn V s a1 a2 → Calls Tryd.prog 5 #[.agg #[.string s.client, .bool s.on, .bool s.clean, .slice a1 s.fl.length c1, .slice a2 s.qu.length c2, .int .i64 s.next], .string ⟨#[97]⟩, .string p, .int .i64 1] V (SPost 0 (sendR s ⟨#[97]⟩ p 1) V)) := fun V h hs => by
            have := send_any s a1 a2 c1 c2 ⟨#[97]⟩ p 1 V hs HX.out.1.cf (HM.out.below h)
            rw [g1] at this
            exact this
          clear g1 g2 g3 g6
          generalize sendR s ⟨#[97]⟩ p 1 = R at *
          have x0 := HX.out.1.box.cell
          obtain ⟨RM, hRM⟩ : ∃ RM, decide ((s.qu.length : Int) < 6) = RM := ⟨_, rfl⟩
          go_upto_region 20 with fail
          have HRM := hide hRM
          clear hRM
          have y0 : wc.cell? ⟨b, 0, none⟩ = some (.string s.client) := x0 0
          have y1 : wc.cell? ⟨b, 1, none⟩ = some (.bool s.on) := x0 1
          have y2 : wc.cell? ⟨b, 2, none⟩ = some (.bool s.clean) := x0 2
          have y3 : wc.cell? ⟨b, 3, none⟩ = some (.slice a1 s.fl.length c1) := x0 3
          have y4 : wc.cell? ⟨b, 4, none⟩ = some (.slice a2 s.qu.length c2) := x0 4
          have y5 : wc.cell? ⟨b, 5, none⟩ = some (.int .i64 s.next) := x0 5
          have y6 : wc.cell? ⟨pb, po + k, none⟩ = some (.string p) := hpk.out _ HX.out.1.bel
          clear x0
          go_cut [17, 19] (fun x y wr => ∃ (bx : Nat) (h1 : Option Addr) (i1 : Nat) (h2 : Option Addr) (i2 : Nat), x = .pointer (some ⟨bx, 0, none⟩) ∧ y = .int .i64 0 ∧ Hid (Hw b s a1 c1 a2 c2 A aa ca w wr ∧ SAt bx R.1 (.slice h1 R.1.fl.length i1) (.slice h2 R.1.qu.length i2) wr ∧ FlsT (b + 1) wr h1 R.1.fl ∧ FlsT (b + 1) wr h2 R.1.qu ∧ R.1.fl.length ≤ i1 ∧ R.1.qu.length ≤ i2))
          case first =>
            as_aux_lemma =>
              have hbZ : b < wc.heap.size := HX.out.1.box.lt
              have hpZ : pb < wc.heap.size := World.block_lt_of_cell? _ _ y6
              have HX2 := hide (HX.out.1.alloc (.cells #[.string ⟨#[]⟩, .bool false, .bool false, .slice none 0 0, .slice none 0 0, .int .i64 0] 24)).drew
              have DZ : Hid (SAt wc.heap.size zeroSe (.slice none 0 0) (.slice none 0 0) (wc.alloc (.cells #[.string ⟨#[]⟩, .bool false, .bool false, .slice none 0 0, .slice none 0 0, .int .i64 0] 24)).drew) := (sat_new zeroSe (.slice none 0 0) (.slice none 0 0) wc).after (Below.drew (Below.refl _ _))
              have HX1 := hide HX.out.1.drew
              have hs2 : b + 1 ≤ ((wc.alloc (.cells #[.string ⟨#[]⟩, .bool false, .bool false, .slice none 0 0, .slice none 0 0, .int .i64 0] 24)).drew).heap.size := HX2.out.box.lt
              have hs1 : b + 1 ≤ wc.drew.heap.size := HX1.out.box.lt
              go_region_held3 (fun w' => w'.cell? ⟨b, 0, none⟩ = some (.string s.client) ∧ w'.cell? ⟨b, 1, none⟩ = some (.bool s.on) ∧ w'.cell? ⟨b, 2, none⟩ = some (.bool s.clean) ∧ w'.cell? ⟨b, 3, none⟩ = some (.slice a1 s.fl.length c1) ∧ w'.cell? ⟨b, 4, none⟩ = some (.slice a2 s.qu.length c2) ∧ w'.cell? ⟨b, 5, none⟩ = some (.int .i64 s.next) ∧ w'.cell? ⟨pb, po + k, none⟩ = some (.string p)) (first
                  | (refine ⟨?_, ?_, ?_, ?_, ?_, ?_, ?_⟩ <;> with_reducible assumption)
                  | (go_split_ands; with_reducible refine s7_six ?_ ?_ ?_ ?_ ?_ ?_ ?_ ?_ ?_ ?_ ?_ ?_ ?_ ?_ _ _ _ _ _ _ <;> with_reducible assumption)
                  | (go_split_ands; with_reducible refine s7_alloc ?_ ?_ ?_ ?_ ?_ ?_ ?_ _ <;> with_reducible assumption)
                  | go_keep
                  | fail)
                (first
                  | (go_at_call 5; refine (CS.out (wc.alloc _).drew HX2.out.bel HX2.out.inn).mono ?_; rintro e w3 ⟨h1, i1, h2, i2, ao, cs, rfl, ho, hb⟩; have HW3 := hide (HX2.out.step hb); have HO3 := hide (ho.mono hs2); have HOZ := hide ho; have D3 := hide (DZ.out.after hb); have q1 := D3.out.cell; have q2 := D3.out.frozen; simp only [zeroSe] at q1; have z0 : w3.cell? ⟨b, 0, none⟩ = some (.string s.client) := HW3.out.box.cell 0; have z1 : w3.cell? ⟨b, 1, none⟩ = some (.bool s.on) := HW3.out.box.cell 1; have z2 : w3.cell? ⟨b, 2, none⟩ = some (.bool s.clean) := HW3.out.box.cell 2; have z3 : w3.cell? ⟨b, 3, none⟩ = some (.slice a1 s.fl.length c1) := HW3.out.box.cell 3; have z4 : w3.cell? ⟨b, 4, none⟩ = some (.slice a2 s.qu.length c2) := HW3.out.box.cell 4; have z5 : w3.cell? ⟨b, 5, none⟩ = some (.int .i64 s.next) := HW3.out.box.cell 5; have z6 : w3.cell? ⟨pb, po + k, none⟩ = some (.string p) := hpk.out _ HW3.out.bel)
                  | (go_at_call 5; refine (CS.out wc.drew HX1.out.bel HX1.out.inn).mono ?_; rintro e w3 ⟨h1, i1, h2, i2, ao, cs, rfl, ho, hb⟩; have HW4 := hide (HX1.out.step hb); have HO4 := hide (ho.mono hs1); have z0 : w3.cell? ⟨b, 0, none⟩ = some (.string s.client) := HW4.out.box.cell 0; have z1 : w3.cell? ⟨b, 1, none⟩ = some (.bool s.on) := HW4.out.box.cell 1; have z2 : w3.cell? ⟨b, 2, none⟩ = some (.bool s.clean) := HW4.out.box.cell 2; have z3 : w3.cell? ⟨b, 3, none⟩ = some (.slice a1 s.fl.length c1) := HW4.out.box.cell 3; have z4 : w3.cell? ⟨b, 4, none⟩ = some (.slice a2 s.qu.length c2) := HW4.out.box.cell 4; have z5 : w3.cell? ⟨b, 5, none⟩ = some (.int .i64 s.next) := HW4.out.box.cell 5; have z6 : w3.cell? ⟨pb, po + k, none⟩ = some (.string p) := hpk.out _ HW4.out.bel)
                  | fail)
              all_goals go_wp2
              all_goals first
                | (go_meet
                   case rel => exact ⟨w3.heap.size, h1, i1, h2, i2, rfl, rfl, HW4.out.alloc _, sat_new _ _ _ _, HO4.out.fl.below ((Below.refl _ w3).alloc (Nat.le_refl _) _), HO4.out.qu.below ((Below.refl _ w3).alloc (Nat.le_refl _) _), HO4.out.cf, HO4.out.cq⟩)
                | (go_meet
                   case rel => exact ⟨wc.heap.size, h1, i1, h2, i2, rfl, rfl, HW3.out.other D3.out hbZ _ _ _ _ _ _, D3.out.six R.1 _ _, ((out_six HOZ.out (by simp) _ _ _ _ _ _).mono hs2).fl, ((out_six HOZ.out (by simp) _ _ _ _ _ _).mono hs2).qu, HO3.out.cf, HO3.out.cq⟩)
          case rest =>
            have HA2 := hide HX.out.2.2
            have hbig2 : A.length ≤ 9 := by rw [HX.out.2.2, HG6.out]; omega
            clear HX CS y0 y1 y2 y3 y4 y5 y6
            obtain ⟨bx, h1, i1, h2, i2, rfl, rfl, HY⟩ := hcut
            go_upto_if 87 with fail
            go_cut [10] (fun x wr => ∃ (A : List ByteArray) (aa : Option Addr) (ca : Nat), x = .slice aa A.length ca ∧ Hid (Hw b s a1 c1 a2 c2 A aa ca w wr ∧ SAt bx R.1 (.slice h1 R.1.fl.length i1) (.slice h2 R.1.qu.length i2) wr ∧ FlsT (b + 1) wr h1 R.1.fl ∧ FlsT (b + 1) wr h2 R.1.qu ∧ R.1.fl.length ≤ i1 ∧ R.1.qu.length ≤ i2 ∧ A = loads R.1))
            case first =>
              as_aux_lemma =>
                cases RM with
                | false =>
                  have hl : loads R.1 = loads s := by
                    have := HRM.out
                    rw [HG3.out, if_neg (by have := of_decide_eq_false this; omega)]
                  have HL := hide hl
                  clear hl
                  go_wp2
                  go_meet
                  case rel => exact ⟨A, aa, ca, rfl, HY.out.1, HY.out.2.1, HY.out.2.2.1, HY.out.2.2.2.1, HY.out.2.2.2.2.1, HY.out.2.2.2.2.2, by rw [HL.out, HA2.out]⟩
                | true =>
                  have hl : loads R.1 = loads s ++ [p] := by
                    have := HRM.out
                    rw [HG3.out, if_pos (by have := of_decide_eq_true this; omega)]
                  have HL := hide hl
                  clear hl
                  have y6 : wc.cell? ⟨pb, po + k, none⟩ = some (.string p) := hpk.out _ HY.out.1.bel
                  have HW5 := hide (HY.out.1.alloc (.cells #[.string p] 9))
                  have D5 := hide (HY.out.2.1.after (w' := wc.alloc (.cells #[.string p] 9)) ((Below.refl _ wc).alloc (Nat.le_refl _) _))
                  have F5 := hide (HY.out.2.2.1.below (W' := wc.alloc (.cells #[.string p] 9)) ((Below.refl _ wc).alloc (Nat.le_refl _) _))
                  have Q5 := hide (HY.out.2.2.2.1.below (W' := wc.alloc (.cells #[.string p] 9)) ((Below.refl _ wc).alloc (Nat.le_refl _) _))
                  have HLN := hide HY.out.2.2.2.2
                  have HST := hide (str_one [p])
                  go_wp2_with (at_builtin; refine wp_app ap_strings rfl _ _ rfl rfl aa A.length ca (A.map .string) (by rfl) HW5.out.all (some ⟨wc.heap.size, 0, none⟩) 1 1 [.string p] (by rfl) rfl (fun _ => ⟨_, rfl, World.news_of_block (Go.heap_alloc_new _ _)⟩) HST.out (by unfold maxLen; omega) (by omega) HW5.out.box.lt ?_; intro ao' cap w7 hown hgrow hat)
                  have HW7 := hide (HW5.out.grown hgrow (A' := A ++ [p]) (n := A.length + 1) (by simp) (by rw [List.map_append]; exact hown))
                  have D7 := hide (D5.out.grown HW5.out.all (by decide) hgrow)
                  have F7 := hide (F5.out.grown HW5.out.all (by decide) hgrow)
                  have Q7 := hide (Q5.out.grown HW5.out.all (by decide) hgrow)
                  clear hown hgrow hat HW5 D5 F5 Q5 y6 HY HST
                  go_wp2
                  go_meet
                  case rel => exact ⟨A ++ [p], ao', cap, by simp, HW7.out, D7.out, F7.out, Q7.out, HLN.out.1, HLN.out.2, by rw [HL.out, HA2.out]⟩
            case rest =>
              clear HY HA2 HG3 HRM HG6 hbig2
              obtain ⟨A, aa, ca, rfl, HZ⟩ := hcut
              have x1 := HZ.out.2.1.cell
              have y1 := HZ.out.1.box.cell
              have y2 := HZ.out.1.box.frozen
              have HW := hide (HZ.out.1.put HZ.out.2.2.1 HZ.out.2.2.2.1 HZ.out.2.2.2.2.1 HZ.out.2.2.2.2.2.1 (Nat.lt_succ_self b))
              have HAL := hide HZ.out.2.2.2.2.2.2
              clear HZ
              go_upto_region 26 with fail
              clear x1 y1 y2
              revert HW
              generalize (((((wc.setCell ⟨b, 0, none⟩ (.string R.1.client)).setCell ⟨b, 1, none⟩ (.bool R.1.on)).setCell ⟨b, 2, none⟩ (.bool R.1.clean)).setCell ⟨b, 3, none⟩ (.slice h1 R.1.fl.length i1)).setCell ⟨b, 4, none⟩ (.slice h2 R.1.qu.length i2)).setCell ⟨b, 5, none⟩ (.int .i64 R.1.next) = W8
              intro HW
              have HGD := hide HG2.out
              clear HG2
              generalize R.1 = s8 at *
              have y3 : W8.cell? ⟨b, 3, none⟩ = some (.slice h1 s8.fl.length i1) := HW.out.box.cell 3
              obtain ⟨LB, hLB⟩ : ∃ LB : Bool, LB = true ↔ ∃ h : k < D.length, 0 ≤ D[k] ∧ D[k] < s8.fl.length := by classical exact ⟨decide _, decide_eq_true_iff⟩
              have HLB := hide hLB
              clear hLB
              go_cut [116] (fun x wr => x = .bool LB ∧ Hid (∃ n, wr = W8.drewN n))
              case first =>
                as_aux_lemma =>
                  by_cases q1 : k < D.length
                  · obtain ⟨db, dofs, rfl, hdb, hdc⟩ := ints_here HD.out q1
                    have dk : W8.cell? ⟨db, dofs + k, none⟩ = some (.int .i64 D[k]) := (HW.out.bel.cell (p := ⟨db, _, none⟩) hdb).trans (hdc k q1)
                    have q1i : (k : Int) < D.length := by omega
                    have hlb := HLB.out
                    clear hdc
                    by_cases q2 : 0 ≤ D[k]
                    · by_cases q3 : D[k] < s8.fl.length
                      · obtain rfl : LB = true := hlb.2 ⟨q1, q2, q3⟩
                        clear hlb HLB
                        generalize D[k] = d at *
                        go_big_quiet (fail)
                        go_wp2
                        go_meet
                        case rel => exact ⟨rfl, _, rfl⟩
                      · obtain rfl : LB = false := by
                          cases LB with
                          | false => rfl
                          | true => obtain ⟨_, _, h⟩ := hlb.1 rfl; exact absurd h q3
                        have q3d : decide (D[k] < (s8.fl.length : Int)) = false := by simpa using q3
                        clear hlb HLB
                        generalize D[k] = d at *
                        go_big_quiet (fail)
                        go_wp2
                        go_meet
                        case rel => exact ⟨rfl, _, rfl⟩
                    · obtain rfl : LB = false := by
                        cases LB with
                        | false => rfl
                        | true => obtain ⟨_, h, _⟩ := hlb.1 rfl; exact absurd h q2
                      have q2d : decide (0 ≤ D[k]) = false := by simpa using q2
                      have q2e : decide (D[k] ≥ 0) = false := by simpa using q2
                      clear hlb HLB
                      generalize D[k] = d at *
                      go_big_quiet (fail)
                      go_wp2
                      go_meet
                      case rel => exact ⟨rfl, _, rfl⟩
                  · obtain rfl : LB = false := by
                      cases LB with
                      | false => rfl
                      | true => obtain ⟨h, _⟩ := HLB.out.1 rfl; exact absurd h q1
                    have q1d : decide ((k : Int) < D.length) = false := by simpa using q1
                    clear HLB
                    go_big_quiet (fail)
                    go_wp2
                    go_meet
                    case rel => exact ⟨rfl, _, rfl⟩
              case rest =>
                obtain ⟨rfl, n8, rfl⟩ := hcut
                have HW9 := hide (HW.out.drewN n8)
                clear HW y3
                generalize W8.drewN n8 = W9 at *
                go_upto_if 116 with fail
                go_cut [10] (fun x wr => ∃ (s : Se) (a1 : Option Addr) (c1 : Nat) (a2 : Option Addr) (c2 : Nat) (A : List ByteArray) (aa : Option Addr) (ca : Nat), x = .slice aa A.length ca ∧ Hid (Hw b s a1 c1 a2 c2 A aa ca w wr ∧ Good cl s ∧ A = loads s))
                case first =>
                  as_aux_lemma =>
                    cases LB with
                    | false =>
                      go_wp2
                      go_meet
                      case rel => exact ⟨s8, h1, i1, h2, i2, A, aa, ca, rfl, HW9.out, HGD.out, HAL.out⟩
                    | true =>
                      obtain ⟨q1, q2, q3⟩ := HLB.out.1 rfl
                      obtain ⟨db, dofs, rfl, hdb, hdc⟩ := ints_here HD.out q1
                      have dk : W9.cell? ⟨db, dofs + k, none⟩ = some (.int .i64 D[k]) := (HW9.out.bel.cell (p := ⟨db, _, none⟩) hdb).trans (hdc k q1)
                      obtain ⟨n, hn⟩ : ∃ n : Nat, D[k] = (n : Int) := ⟨D[k].toNat, by omega⟩
                      have hnl : n < s8.fl.length := by omega
                      rw [hn] at dk
                      have q1i : (k : Int) < D.length := by omega
                      have hni : (n : Int) < s8.fl.length := by omega
                      clear hdc hn q2 q3 HLB
                      obtain ⟨g1, g2, g3⟩ := land_good HGD.out hnl
                      obtain ⟨g4, g5, g6⟩ := good_len HGD.out
                      have HG3 := hide g3
                      have HG2 := hide g2
                      have HG6 := hide g6
                      have CL : Hid (∀ V, Below w.heap.size w V → SeIn V s8 h1 h2 → Calls Tryd.prog 6 #[.agg #[.string s8.client, .bool s8.on, .bool s8.clean, .slice h1 s8.fl.length i1, .slice h2 s8.qu.length i2, .int .i64 s8.next], .int .i64 s8.fl[n].id] V (SPost 0 (landR s8 s8.fl[n].id) V)) := fun V h hs => by
                        have := landed_any s8 h1 h2 i1 i2 s8.fl[n].id V hs HW9.out.cf (HM.out.below h)
                        rw [g1] at this
                        exact this
                      clear g1 g2 g3 g6
                      obtain ⟨lg, lo, cur, rfl, _, _, _⟩ : ∃ g o cur, h1 = some ⟨g, o, none⟩ ∧ b + 1 ≤ g ∧ W9.heap[g]? = some (.cells cur 46 (0, 0)) ∧ True := by
                        rcases HW9.out.fl with h0 | ⟨g, o, cur, ha, hN, hg, _⟩
                        · rw [h0] at hnl; exact absurd hnl (Nat.not_lt_zero _)
                        · exact ⟨g, o, cur, ha, hN, hg, trivial⟩
                      have HID : Hid (∀ V, FlsT (b + 1) V (some ⟨lg, lo, none⟩) s8.fl → V.cell? ⟨lg, lo + n * 3, none⟩ = some (.int .i64 s8.fl[n].id)) := fun V h => by
                        rcases h with h0 | ⟨g, o, cur, ha, hN, hg, hc⟩
                        · rw [h0] at hnl; exact absurd hnl (Nat.not_lt_zero _)
                        · injection ha with ha
                          injection ha with e1 e2 _
                          subst e1 e2
                          exact (hc n hnl).1
                      generalize landR s8 s8.fl[n].id = R at *
                      generalize s8.fl[n].id = id at *
                      go_upto_region 28 with fail
                      have y0 : W9.cell? ⟨b, 0, none⟩ = some (.string s8.client) := HW9.out.box.cell 0
                      have y1 : W9.cell? ⟨b, 1, none⟩ = some (.bool s8.on) := HW9.out.box.cell 1
                      have y2 : W9.cell? ⟨b, 2, none⟩ = some (.bool s8.clean) := HW9.out.box.cell 2
                      have y3 : W9.cell? ⟨b, 3, none⟩ = some (.slice (some ⟨lg, lo, none⟩) s8.fl.length i1) := HW9.out.box.cell 3
                      have y4 : W9.cell? ⟨b, 4, none⟩ = some (.slice h2 s8.qu.length i2) := HW9.out.box.cell 4
                      have y5 : W9.cell? ⟨b, 5, none⟩ = some (.int .i64 s8.next) := HW9.out.box.cell 5
                      have y6 : W9.cell? ⟨lg, lo + n * 3, none⟩ = some (.int .i64 id) := HID.out _ HW9.out.fl
                      clear dk
                      go_cut [21, 23] (fun x y wr => ∃ (bx : Nat) (h3 : Option Addr) (i3 : Nat) (h4 : Option Addr) (i4 : Nat), x = .pointer (some ⟨bx, 0, none⟩) ∧ y = .int .i64 0 ∧ Hid (Hw b s8 (some ⟨lg, lo, none⟩) i1 h2 i2 A aa ca w wr ∧ SAt bx R.1 (.slice h3 R.1.fl.length i3) (.slice h4 R.1.qu.length i4) wr ∧ FlsT (b + 1) wr h3 R.1.fl ∧ FlsT (b + 1) wr h4 R.1.qu ∧ R.1.fl.length ≤ i3 ∧ R.1.qu.length ≤ i4))
                      case first =>
                        as_aux_lemma =>
                          have hbZ : b < W9.heap.size := HW9.out.box.lt
                          have hpZ : lg < W9.heap.size := World.block_lt_of_cell? _ _ y6
                          have HX2 := hide (HW9.out.alloc (.cells #[.string ⟨#[]⟩, .bool false, .bool false, .slice none 0 0, .slice none 0 0, .int .i64 0] 24)).drew
                          have DZ : Hid (SAt W9.heap.size zeroSe (.slice none 0 0) (.slice none 0 0) (W9.alloc (.cells #[.string ⟨#[]⟩, .bool false, .bool false, .slice none 0 0, .slice none 0 0, .int .i64 0] 24)).drew) := (sat_new zeroSe (.slice none 0 0) (.slice none 0 0) W9).after (Below.drew (Below.refl _ _))
                          have HX1 := hide HW9.out.drew
                          have hs2 : b + 1 ≤ ((W9.alloc (.cells #[.string ⟨#[]⟩, .bool false, .bool false, .slice none 0 0, .slice none 0 0, .int .i64 0] 24)).drew).heap.size := HX2.out.box.lt
                          have hs1 : b + 1 ≤ W9.drew.heap.size := HX1.out.box.lt
                          go_region_held3 (fun w' => w'.cell? ⟨b, 0, none⟩ = some (.string s8.client) ∧ w'.cell? ⟨b, 1, none⟩ = some (.bool s8.on) ∧ w'.cell? ⟨b, 2, none⟩ = some (.bool s8.clean) ∧ w'.cell? ⟨b, 3, none⟩ = some (.slice (some ⟨lg, lo, none⟩) s8.fl.length i1) ∧ w'.cell? ⟨b, 4, none⟩ = some (.slice h2 s8.qu.length i2) ∧ w'.cell? ⟨b, 5, none⟩ = some (.int .i64 s8.next) ∧ w'.cell? ⟨lg, lo + n * 3, none⟩ = some (.int .i64 id)) (first
                              | (refine ⟨?_, ?_, ?_, ?_, ?_, ?_, ?_⟩ <;> with_reducible assumption)
                              | (go_split_ands; with_reducible refine s7_six ?_ ?_ ?_ ?_ ?_ ?_ ?_ ?_ ?_ ?_ ?_ ?_ ?_ ?_ _ _ _ _ _ _ <;> with_reducible assumption)
                              | (go_split_ands; with_reducible refine s7_alloc ?_ ?_ ?_ ?_ ?_ ?_ ?_ _ <;> with_reducible assumption)
                              | go_keep
                              | fail)
                            (first
                              | (go_at_call 6; refine (CL.out (W9.alloc _).drew HX2.out.bel HX2.out.inn).mono ?_; rintro e w3 ⟨h3, i3, h4, i4, ao, cs, rfl, ho, hb⟩; have HW3 := hide (HX2.out.step hb); have HO3 := hide (ho.mono hs2); have HOZ := hide ho; have D3 := hide (DZ.out.after hb); have q1 := D3.out.cell; have q2 := D3.out.frozen; simp only [zeroSe] at q1; have z0 : w3.cell? ⟨b, 0, none⟩ = some (.string s8.client) := HW3.out.box.cell 0; have z1 : w3.cell? ⟨b, 1, none⟩ = some (.bool s8.on) := HW3.out.box.cell 1; have z2 : w3.cell? ⟨b, 2, none⟩ = some (.bool s8.clean) := HW3.out.box.cell 2; have z3 : w3.cell? ⟨b, 3, none⟩ = some (.slice (some ⟨lg, lo, none⟩) s8.fl.length i1) := HW3.out.box.cell 3; have z4 : w3.cell? ⟨b, 4, none⟩ = some (.slice h2 s8.qu.length i2) := HW3.out.box.cell 4; have z5 : w3.cell? ⟨b, 5, none⟩ = some (.int .i64 s8.next) := HW3.out.box.cell 5; have z6 : w3.cell? ⟨lg, lo + n * 3, none⟩ = some (.int .i64 id) := HID.out w3 HW3.out.fl)
                              | (go_at_call 6; refine (CL.out W9.drew HX1.out.bel HX1.out.inn).mono ?_; rintro e w3 ⟨h3, i3, h4, i4, ao, cs, rfl, ho, hb⟩; have HW4 := hide (HX1.out.step hb); have HO4 := hide (ho.mono hs1); have z0 : w3.cell? ⟨b, 0, none⟩ = some (.string s8.client) := HW4.out.box.cell 0; have z1 : w3.cell? ⟨b, 1, none⟩ = some (.bool s8.on) := HW4.out.box.cell 1; have z2 : w3.cell? ⟨b, 2, none⟩ = some (.bool s8.clean) := HW4.out.box.cell 2; have z3 : w3.cell? ⟨b, 3, none⟩ = some (.slice (some ⟨lg, lo, none⟩) s8.fl.length i1) := HW4.out.box.cell 3; have z4 : w3.cell? ⟨b, 4, none⟩ = some (.slice h2 s8.qu.length i2) := HW4.out.box.cell 4; have z5 : w3.cell? ⟨b, 5, none⟩ = some (.int .i64 s8.next) := HW4.out.box.cell 5; have z6 : w3.cell? ⟨lg, lo + n * 3, none⟩ = some (.int .i64 id) := HID.out w3 HW4.out.fl)
                              | fail)
                          all_goals go_wp2
                          all_goals first
                            | (go_meet
                               case rel => exact ⟨w3.heap.size, h3, i3, h4, i4, rfl, rfl, HW4.out.alloc _, sat_new _ _ _ _, HO4.out.fl.below ((Below.refl _ w3).alloc (Nat.le_refl _) _), HO4.out.qu.below ((Below.refl _ w3).alloc (Nat.le_refl _) _), HO4.out.cf, HO4.out.cq⟩)
                            | (go_meet
                               case rel => exact ⟨W9.heap.size, h3, i3, h4, i4, rfl, rfl, HW3.out.other D3.out hbZ _ _ _ _ _ _, D3.out.six R.1 _ _, ((out_six HOZ.out (by simp) _ _ _ _ _ _).mono hs2).fl, ((out_six HOZ.out (by simp) _ _ _ _ _ _).mono hs2).qu, HO3.out.cf, HO3.out.cq⟩)
                      case rest =>
                        clear y0 y1 y2 y3 y4 y5 y6 CL HID HGD
                        obtain ⟨bx, h3, i3, h4, i4, rfl, rfl, HY⟩ := hcut
                        have hAl : n + 1 ≤ A.length := by rw [HAL.out, HG6.out]; omega
                        have hA9 : A.length ≤ 9 := by rw [HAL.out, HG6.out]; omega
                        have HLL : Hid (loads R.1 = A.take n ++ A.drop (n + 1)) := by have := HG3.out; rw [HAL.out]; exact this
                        obtain ⟨rg, rfl, hAc⟩ : ∃ g, aa = some ⟨g, 0, none⟩ ∧ A.length ≤ ca := by
                          rcases row_form HY.out.1.all with ⟨_, h0, _⟩ | h
                          · omega
                          · exact h
                        have hnA : (n : Int) ≤ A.length := by omega
                        have hnA1 : ((n + 1 : Nat) : Int) ≤ A.length := by omega
                        have hAci : (A.length : Int) ≤ ca := by omega
                        have hnc : (n : Int) ≤ ca := by omega
                        have hnc1 : ((n + 1 : Nat) : Int) ≤ ca := by omega
                        go_upto_region 31 with fail
                        have HWD := hide HY.out.1.drew
                        have HNW : Hid (((wc.drew).alloc (.cells #[] 9)).ownsRow (b + 1) 9 1 (.slice (some ⟨wc.heap.size, 0, none⟩) 0 0) 0 []) := World.ownsRow_made wc.drew #[] 0 HWD.out.box.lt (by unfold maxLen; omega) (by rfl)
                        have HWA := hide (HWD.out.alloc (.cells #[] 9))
                        have HST := hide (str_one A)
                        have hrg : rg < wc.heap.size := (kown_lt HY.out.1.all (by rfl))
                        have hl1 : ((A.map Value.string).drop 0).take n = (A.map Value.string).take n := by rw [List.drop_zero]
                        have hn1 : (((A.map Value.string).drop 0).take n).length = n * 1 := by rw [List.length_take, List.drop_zero, List.length_map]; omega
                        obtain ⟨m, hm⟩ : ∃ m, m = n + 1 := ⟨_, rfl⟩
                        have hw1 : IntKind.i64.wrap ((n : Int) + 1) = (m : Int) := by rw [IntKind.wrap_i64]; omega
                        have hmA : (m : Int) ≤ A.length := by omega
                        have HAM := hide hAl
                        have HMM := hide hm
                        clear hnA1 hnc1 hAl
                        have hmm : m ≤ A.length := by omega
                        clear hm
                        obtain ⟨X2, hX2⟩ : ∃ X2, (if ca = m then some (⟨rg, 0, none⟩ : Addr) else some ⟨rg, m, none⟩) = X2 := ⟨_, rfl⟩
                        have hn2 : (((A.map Value.string).drop m).take (A.length - m)).length = (A.length - m) * 1 := by rw [List.length_take, List.length_drop, List.length_map]; omega
                        have HKA : Hid (∀ wa, ((wc.drew).alloc (.cells #[] 9)).grownBy wa (Value.slice (some ⟨wc.heap.size, 0, none⟩) 0 0).ownBlock → wa.ownsRow (b + 1) 9 1 (.slice (some ⟨rg, 0, none⟩) A.length ca) A.length (A.map .string) ∧ b + 1 ≤ wa.heap.size) := fun wa hg => by
                          refine ⟨kown_kept HWA.out.all fun g hgg => hg.block g (kown_lt HWA.out.all hgg) (fun e => ?_), Nat.le_trans HWA.out.box.lt hg.size⟩
                          have e1 : g = rg := by simpa [Value.ownBlock] using hgg.symm
                          have e2 : g = wc.heap.size := by simpa [Value.ownBlock] using e
                          omega
                        go_region_law (first
                          | (refine step_app ap_strings (by rfl) _ _ (by rfl) (by rfl) (some ⟨wc.heap.size, 0, none⟩) 0 0 [] (by rfl) HNW.out (some ⟨rg, 0, none⟩) n ca (((A.map Value.string).drop 0).take n) (by rfl) hn1 (fun _ => ⟨_, rfl, own_news HWA.out.all 0 n (by omega)⟩) (fun u hu => HST.out u (by rw [List.drop_zero] at hu; exact List.mem_of_mem_take hu)) (by unfold maxLen; omega) (by omega) HWA.out.box.lt ?_; intro ao1 cap1 wa hown1 hgrow1 hat1; have hown1' : wa.ownsRow (b + 1) 9 1 (.slice ao1 n cap1) n (((A.map Value.string).drop 0).take n) := (by rw [Nat.zero_add, List.nil_append] at hown1; exact hown1))
                          | (refine step_app ap_strings (by rfl) _ _ (by rfl) (by rfl) ao1 n cap1 _ (by rfl) hown1' X2 (A.length - m) (ca - m) (((A.map Value.string).drop m).take (A.length - m)) (by rfl) hn2 (fun h => ⟨⟨rg, m, none⟩, by rw [← hX2, if_neg (by omega)], own_news (HKA.out wa hgrow1).1 m (A.length - m) (by omega)⟩) (fun u hu => HST.out u (List.mem_of_mem_drop (List.mem_of_mem_take hu))) (by unfold maxLen; omega) (by omega) (HKA.out wa hgrow1).2 ?_; intro ao2 cap2 wb hown2 hgrow2 hat2)
                          | (refine step_app ap_strings (by rfl) _ _ (by rfl) (by rfl) ao1 (0 + n) cap1 _ (by rfl) hown1 X2 (A.length - m) (ca - m) (((A.map Value.string).drop m).take (A.length - m)) (by rfl) hn2 (fun h => ⟨⟨rg, m, none⟩, by rw [← hX2, if_neg (by omega)], own_news (HKA.out wa hgrow1).1 m (A.length - m) (by omega)⟩) (fun u hu => HST.out u (List.mem_of_mem_drop (List.mem_of_mem_take hu))) (by unfold maxLen; omega) (by omega) (HKA.out wa hgrow1).2 ?_; intro ao2 cap2 wb hown2 hgrow2 hat2)
                          | fail)
                        have HWB := hide (HWA.out.swap (by have := HWA.out.le; omega) HNW.out hgrow1 (A' := A.take n) (n := n) (by rw [List.length_take]; omega) (by rw [List.map_take]; have := hown1'; rwa [List.drop_zero] at this))
                        have HWC := hide (HWB.out.swap (by have := HWA.out.le; omega) hown1' hgrow2 (A' := A.take n ++ A.drop m) (n := n + (A.length - m)) (by rw [List.length_append, List.length_take, List.length_drop]; omega) (by
                          rw [List.map_append, List.map_take, List.map_drop]
                          have := hown2
                          rwa [List.drop_zero, List.take_of_length_le (i := A.length - m) (by rw [List.length_drop, List.length_map]; omega)] at this))
                        have hbl : Below wc.heap.size wc ((wc.drew).alloc (.cells #[] 9)) := (Below.drew (Below.refl _ _)).alloc (Nat.le_refl _) _
                        have D5 := hide (((HY.out.2.1.after hbl).grown HNW.out (by decide) hgrow1).grown hown1' (by decide) hgrow2)
                        have F5 := hide (((HY.out.2.2.1.below hbl).grown HNW.out (by decide) hgrow1).grown hown1' (by decide) hgrow2)
                        have Q5 := hide (((HY.out.2.2.2.1.below hbl).grown HNW.out (by decide) hgrow1).grown hown1' (by decide) hgrow2)
                        have HLN := hide HY.out.2.2.2.2
                        have hAm : n + (A.length - m) = (A.take n ++ A.drop m).length := by rw [List.length_append, List.length_take, List.length_drop]; omega
                        have HL2 : Hid (A.take n ++ A.drop m = loads R.1) := by rw [HLL.out, HMM.out]; exact rfl
                        have HAM2 := hide hAm
                        clear hown1 hgrow1 hat1 hown1' hown2 hgrow2 hat2 hbl HWA HWB HWD HNW HKA HST hX2 hn1 hn2 hl1 hAm
                        have x1 := D5.out.cell
                        have y1 := HWC.out.box.cell
                        have y2 := HWC.out.box.frozen
                        have HW12 := hide (HWC.out.put F5.out Q5.out HLN.out.1 HLN.out.2 (Nat.lt_succ_self b))
                        clear D5 F5 Q5 HWC HY HLL HAL
                        go_simp
                        go_wp2
                        go_meet
                        case rel => exact ⟨R.1, h3, i3, h4, i4, A.take n ++ A.drop m, ao2, cap2, by rw [HAM2.out], HW12.out, HG2.out, HL2.out⟩
                case rest =>
                  clear HW9 HGD HLB HAL
                  obtain ⟨s, a1, c1, a2, c2, A, aa, ca, rfl, HX⟩ := hcut
                  obtain ⟨g4, g5, g6⟩ := good_len HX.out.2.1
                  have hA9 : A.length = s.fl.length + s.qu.length := by rw [HX.out.2.2, g6]
                  have HA9 := hide hA9
                  have hA10 : A.length ≤ 9 := by omega
                  clear hA9 g6
                  have HCH := hide HX.out.2.1.chk
                  have HGO := hide HX.out.2.1
                  have HAL := hide HX.out.2.2
                  have HW := hide HX.out.1
                  clear HX
                  go_upto_region 33 with fail
                  go_cut [24] (fun x wr => ∃ (ao : Option Addr) (cap : Nat), x = .slice ao A.length cap ∧ Hid (Hw b s a1 c1 a2 c2 A aa ca w wr ∧ FlsIn wr ao (s.fl ++ s.qu)))
                  case first =>
                    as_aux_lemma =>
                      have y3 : wc.cell? ⟨b, 3, none⟩ = some (.slice a1 s.fl.length c1) := HW.out.box.cell 3
                      have y4 : wc.cell? ⟨b, 4, none⟩ = some (.slice a2 s.qu.length c2) := HW.out.box.cell 4
                      have HWA := hide (HW.out.drew.alloc (.cells #[] 46))
                      have z3 : (wc.alloc (.cells #[] 46)).cell? ⟨b, 3, none⟩ = some (.slice a1 s.fl.length c1) := (HW.out.alloc _).box.cell 3
                      have z4 : (wc.alloc (.cells #[] 46)).cell? ⟨b, 4, none⟩ = some (.slice a2 s.qu.length c2) := (HW.out.alloc _).box.cell 4
                      have HNW : Hid (((wc.drew).alloc (.cells #[] 46)).ownsRow wc.heap.size 46 3 (.slice (some ⟨wc.heap.size, 0, none⟩) 0 0) 0 []) := World.ownsRow_made wc.drew #[] 0 (Nat.le_refl _) (by unfold maxLen; omega) (by rfl)
                      have HB0 : Hid (Below wc.heap.size wc ((wc.drew).alloc (.cells #[] 46))) := (Below.drew (Below.refl _ _)).alloc (Nat.le_refl _) _
                      have hs0 : wc.heap.size ≤ ((wc.drew).alloc (.cells #[] 46)).heap.size := HB0.out.size
                      have HKF : Hid (∀ wa, ((wc.drew).alloc (.cells #[] 46)).grownBy wa (Value.slice (some ⟨wc.heap.size, 0, none⟩) 0 0).ownBlock → FlsT (b + 1) wa a2 s.qu ∧ wc.heap.size ≤ wa.heap.size ∧ Below wc.heap.size wc wa ∧ wa.cell? ⟨b, 4, none⟩ = some (.slice a2 s.qu.length c2)) := fun wa hg => by
                        have hbw : Below wc.heap.size wc wa := Below.grown HB0.out hg hs0 (fun g hgg => Nat.le_of_eq (by simpa [Value.ownBlock] using hgg))
                        exact ⟨HW.out.qu.below hbw, Nat.le_trans hs0 hg.size, hbw, (hbw.cell (p := ⟨b, 4, none⟩) HW.out.box.lt).trans y4⟩
                      have hf1 := flCells_len s.fl
                      have hf2 := flCells_len s.qu
                      go_region_law (first
                        | (refine step_app ap_flights (by rfl) _ _ (by rfl) (by rfl) (some ⟨wc.heap.size, 0, none⟩) 0 0 [] (by rfl) HNW.out a1 s.fl.length c1 (flCells s.fl) (by rfl) hf1 (fls_news HWA.out.fl) (flCells_one _) (by unfold maxLen; omega) (by omega) hs0 ?_; intro ao1 cap1 wa hown1 hgrow1 hat1; have hown1' : wa.ownsRow wc.heap.size 46 3 (.slice ao1 s.fl.length cap1) s.fl.length (flCells s.fl) := (by rw [Nat.zero_add, List.nil_append] at hown1; exact hown1); have k4 := (HKF.out wa hgrow1).2.2.2)
                        | (refine step_app ap_flights (by rfl) _ _ (by rfl) (by rfl) ao1 s.fl.length cap1 _ (by rfl) hown1' a2 s.qu.length c2 (flCells s.qu) (by rfl) hf2 (fls_news (HKF.out wa hgrow1).1) (flCells_one _) (by unfold maxLen; omega) (by omega) (HKF.out wa hgrow1).2.1 ?_; intro ao2 cap2 wb hown2 hgrow2 hat2)
                        | fail)
                      all_goals
                        have hbB : Below wc.heap.size wc wb := Below.grown (HKF.out wa hgrow1).2.2.1 hgrow2 (HKF.out wa hgrow1).2.1 (fun g hg => (kown_at hown1' hg).1)
                        have HWB := hide (HW.out.step hbB)
                        have hlen : s.fl.length + s.qu.length = (s.fl ++ s.qu).length := by rw [List.length_append]
                        have HFL : Hid (FlsIn wb ao2 (s.fl ++ s.qu)) := own_fls (by rw [flCells_append]; exact hown2) hlen
                        clear hown1 hgrow1 hat1 hown1' k4 hown2 hgrow2 hat2 hbB hlen HWA HKF HNW HB0 hs0 y3 y4 z3 z4 hf1 hf2
                        go_simp
                        go_wp2
                        go_meet
                        case rel => exact ⟨ao2, cap2, by rw [HA9.out], HWB.out, HFL.out⟩
                  case rest =>
                    clear HW
                    obtain ⟨ao, cap, rfl, HX⟩ := hcut
                    have HFL := hide HX.out.2
                    have HW := hide HX.out.1
                    clear HX
                    have CK : Hid (∀ V, Below w.heap.size w V → SeIn V s a1 a2 → Calls Tryd.prog 16 #[.agg #[.string s.client, .bool s.on, .bool s.clean, .slice a1 s.fl.length c1, .slice a2 s.qu.length c2, .int .i64 s.next]] V fun e w' => e = .returned (.int .i64 0) ∧ Below V.heap.size V w') := fun V h hs => by
                      have := scheck_any s a1 a2 c1 c2 V hs HW.out.cf (HM.out.below h)
                      rw [HCH.out] at this
                      exact this
                    have x1 := HW.out.box.cell
                    go_wp2_with fail
                    refine (CK.out _ HW.out.bel HW.out.inn).mono ?_
                    rintro e w5 ⟨rfl, hb⟩
                    have HW5 := hide (HW.out.step hb)
                    have HF5 := hide (HFL.out.below hb)
                    clear hb x1 HW HFL CK
                    have HAF : Hid (A = (s.fl ++ s.qu).map (·.load)) := HAL.out
                    have HLF : Hid ((s.fl ++ s.qu).length = A.length) := by rw [HA9.out, List.length_append]; exact rfl
                    go_wp2
                    go_loopw [25] (fun x wr => ∃ j : Nat, j ≤ A.length ∧ x = .int .i64 j ∧ Hid (∃ n, wr = w5.drewN n)) (fun x _ => A.length - (intOf x).toNat)
                    case atStart => exact ⟨0, Nat.zero_le _, rfl, 0, rfl⟩
                    case round =>
                      obtain ⟨j, hj, rfl, HJ⟩ := hrel
                      obtain ⟨nd, rfl⟩ := HJ.out
                      by_cases hjl : j < A.length
                      · have hji : (j : Int) < A.length := by omega
                        obtain ⟨fg, fo, rfl, hfb, hfc⟩ := fls_here HF5.out (k := j) (by rw [HLF.out]; exact hjl)
                        obtain ⟨rg, rfl, hAc⟩ : ∃ g, aa = some ⟨g, 0, none⟩ ∧ A.length ≤ ca := by
                          rcases row_form HW5.out.all with ⟨_, h0, _⟩ | h
                          · omega
                          · exact h
                        have hx : A[j] = ((s.fl ++ s.qu)[j]'(by rw [HLF.out]; exact hjl)).load := by
                          have := HAF.out
                          simp only [this, List.getElem_map]
                        have q1 : (w5.drewN nd).cell? ⟨fg, fo + j * 3 + 2, none⟩ = some (.string A[j]) := by rw [hx]; exact (hfc j (by rw [HLF.out]; exact hjl)).2.2
                        have q2 : (w5.drewN nd).cell? ⟨rg, j, none⟩ = some (.string A[j]) := ((kown_there HW5.out.all).1 j (by omega)).trans (by rw [List.getElem?_map, List.getElem?_eq_getElem hjl]; rfl)
                        have HND : Hid (∀ n, ∃ n', (w5.drewN nd).drewN n = w5.drewN n') := fun n => ⟨nd + n, by simp [World.drewN, Nat.add_assoc]⟩
                        clear hx hfc HJ
                        generalize A[j] = z at *
                        generalize w5.drewN nd = W10 at *
                        go_wp2_with fail
                        go_big_quiet (fail)
                        go_wp2
                        go_round
                        case rel => exact ⟨j + 1, by omega, by go_num, HND.out _⟩
                        case measure => simp [intOf]; omega
                      · have hje : j = A.length := by omega
                        have HWF := hide (HW5.out.drewN nd)
                        clear HJ HF5
                        generalize w5.drewN nd = W10 at *
                        have hji : ¬ (j : Int) < A.length := by omega
                        clear hje
                        go_wp2
                        go_round
                        case rel => exact ⟨k + 1, s, a1, c1, a2, c2, A, aa, ca, by go_num, by omega, rfl, HWF.out, HGO.out, HAL.out⟩ -- MARK
                        case measure => simp [intOf]; omega
    · by_cases h1 : k < P.length
      · have h2 : ¬ (k : Int) < 40 := by omega
        have h1' : (k : Int) < P.length := by omega
        have HB := hide HR.out.1.bel
        clear HR hlt
        go_wp2
        go_ret
        exact ⟨rfl, HB.out⟩
      · have h1' : ¬ (k : Int) < P.length := by omega
        have HB := hide HR.out.1.bel
        clear HR hlt
        go_wp2
        go_ret
        exact ⟨rfl, HB.out⟩
end Go.Proofs.YtnhcecgmcmcioaaDoor
