/-
  WatchFresh: the walk through the law, by the contracts of what it calls.
-/
import Derived.Test.YtbodjfmbdddieafDoorWatchBegun
import Derived.Test.YtbodjfmbdddieafDoorWatchRef
import Derived.Test.YtbodjfmbdddieafDoorWatchFreshMath
namespace Go.Proofs.YtbodjfmbdddieafDoor
open Go.RowKit Go.PlainAid

/-- the four cells of a watch in a row -/
theorem wts_four {w W : World} {b o : Nat} {l : List Wt} (h : WtsIn w (some ⟨b, o, none⟩) l) (hb : Below w.heap.size w W) (k : Nat) (hk : k < l.length) :
    W.cell? ⟨b, o + k * 4, none⟩ = some (.int .i64 l[k].peer) ∧ W.cell? ⟨b, o + k * 4 + 1, none⟩ = some (.string l[k].token) ∧ W.cell? ⟨b, o + k * 4 + 2, none⟩ = some (.string l[k].topic) ∧ W.cell? ⟨b, o + k * 4 + 3, none⟩ = some (.int .i64 l[k].num) := by
  obtain ⟨b', o', he, _, hc⟩ := wts_here (h.below hb) hk
  injection he with he
  injection he with e1 e2 _
  subst e1 e2
  exact hc k hk
theorem wts_addr {w : World} {ao : Option Addr} {l : List Wt} (h : WtsIn w ao l) (hk : 0 < l.length) : ∃ b o, ao = some ⟨b, o, none⟩ := by
  obtain ⟨b, o, he, _⟩ := wts_here h hk
  exact ⟨b, o, he⟩

set_option maxHeartbeats 16000000 in
set_option maxRecDepth 100000 in
theorem watchFresh_walk (l : List Wt) (n : ByteArray) (x : Int) (ao : Option Addr) (co : Nat) (w : World) (hl : WtsIn w ao l) (hco : l.length ≤ co) (hm : Max w) (hs : ∀ k ∈ l, k.topic.size ≤ 1048576) (hn : n.size ≤ 1048576) :
    Calls Tryd.prog 3 #[.slice ao l.length co, .string n, .int .i64 x] w fun e w' => e = .returned (.bool true) ∧ Below w.heap.size w w' := by
  have C0 := hide (watchBegun_yes w hm)
  have C1 : Hid (∀ W, Below w.heap.size w W → Calls Tryd.prog 6 #[.slice ao l.length co] W fun e w' => e = .returned (.int .i64 (wchkK l)) ∧ Below W.heap.size W w') := fun W h => checkWatches_any l ao co W (hl.below h) hs
  have C2 : Hid (∀ W, Calls Tryd.prog 7 #[.string n, .bool false] W fun e w' => e = .returned (.int .i64 (chk nameF n)) ∧ Below W.heap.size W w') := fun W => checkTopic_any n false W hn
  by_cases h1 : wchkK l = 0
  · by_cases h2 : chk nameF n = 0
    · rw [h1] at C1
      rw [h2] at C2
      have CT : Hid (∀ i, i < 50 → ∀ W aa ca, Below w.heap.size w W → WtsIn W aa (telI l n i) → l.length ≤ ca → Calls Tryd.prog 8 #[.slice aa l.length ca, .string n] W (TPost W (telI l n (i + 1)) ((telI l n (i + 1)).filter (ofT n)) 0)) := fun i hi W aa ca h hk hc => by
        have := wtell_any (telI l n i) n aa ca W hk (by rw [telI_len]; exact hc) (hm.below h)
        have e : telE (telI l n i) n = 0 := by unfold telE; rw [telI_check h1 n (by omega), h2]; rfl
        have e1 : telA (telI l n i) n = telI l n (i + 1) := by unfold telA; rw [e, if_pos rfl, telI_next h1 n (by omega)]
        have e2 : telB (telI l n i) n = (telI l n (i + 1)).filter (ofT n) := by unfold telB telS; rw [e, if_pos rfl, telI_next h1 n (by omega)]
        rwa [e, e1, e2, telI_len] at this
      have CK : Hid (∀ i, i < 50 → ∀ W aa ca, Below w.heap.size w W → WtsIn W aa (telI l n (i + 1)) → l.length ≤ ca → Calls Tryd.prog 9 #[.slice aa l.length ca] W fun e w' => e = .returned (.int .i64 0) ∧ Below W.heap.size W w') := fun i hi W aa ca h hk hc => by
        have := wcheck_any (telI l n (i + 1)) aa ca W hk (by rw [telI_len]; exact hc) (hm.below h)
        rwa [telI_check h1 n (by omega), telI_len] at this
      have HNUM := hide (nums_of h1)
      have HZ : Hid (WtsIn w ao (telI l n 0)) := by show WtsIn _ _ _; rw [telI_zero h1]; exact hl
      have h12 := ((wchkK_iff l).1 h1).1
      have HL := hide hl
      clear hl hm hs hn h1 h2
      go_enter Tryd.func3, Tryd.ntmps3
      go_wp2_with fail
      refine C0.out.mono ?_
      rintro e w1 ⟨rfl, hb1⟩
      have HB1 := hide hb1
      clear hb1 C0
      go_wp2_with fail
      refine (C1.out _ HB1.out).mono ?_
      rintro e w2 ⟨rfl, hb2⟩
      have HB2 := hide (below_step HB1.out hb2)
      clear hb2 C1 HB1
      go_wp2_with fail
      refine (C2.out _).mono ?_
      rintro e w3 ⟨rfl, hb3⟩
      have HB3 := hide (below_step HB2.out hb3)
      clear hb3 C2 HB2
      go_wp2
      go_loopw [0, 8] (fun a i wr => ∃ (i' : Nat) (aa : Option Addr) (ca : Nat), i' ≤ 50 ∧ i = .int .i64 i' ∧ a = .slice aa l.length ca ∧ l.length ≤ ca ∧ Hid (WtsIn wr aa (telI l n i') ∧ Below w.heap.size w wr)) (fun _ i _ => 50 - (intOf i).toNat)
      case atStart => exact ⟨0, ao, co, by omega, rfl, rfl, hco, HZ.out.below HB3.out, HB3.out⟩
      case round =>
        obtain ⟨i, aa, ca, hi, rfl, rfl, hca, HR⟩ := hrel
        by_cases h3 : (i : Int) < x
        · by_cases h4 : i < 50
          · have h4' : (i : Int) < 50 := by omega
            have CT := hide (CT.out i h4)
            have CK := hide (CK.out i h4)
            have HF := hide (fun v hv => fre_all (i := i) (v := v) hv h4)
            go_wp2_with fail
            refine (CT.out _ _ _ HR.out.2 HR.out.1 hca).mono ?_
            intro e w4 ht
            obtain ⟨ab, cb, am, cm, rfl, hx4, hcb, hm4, hcm, hb4⟩ := ht.inn
            have HB4 := hide (below_step HR.out.2 hb4)
            have HX4 := hide hx4
            have HM4 := hide hm4
            have HC4 := hide (HR.out.1.below hb4)
            rw [telI_len] at hcb ⊢
            clear ht hb4 hx4 hm4 HR CT
            go_wp2_with fail
            refine (CK.out _ _ _ HB4.out HX4.out hcb).mono ?_
            rintro e w5 ⟨rfl, hb5⟩
            have HB5 := hide (below_step HB4.out hb5)
            have HX5 := hide (HX4.out.below hb5)
            have HM5 := hide (HM4.out.below hb5)
            have HC5 := hide (HC4.out.below hb5)
            have HF5 := hide (HL.out.below HB5.out)
            clear hb5 HB4 HX4 HM4 HC4 CK
            go_wp2
            go_loopw [12, 13] (fun q j wr => ∃ j' : Nat, j' ≤ l.length ∧ j = .int .i64 j' ∧ q = .int .i64 (cntT n (telI l n (i + 1)) j' : Nat) ∧ Hid (Below w5.heap.size w5 wr)) (fun _ j _ => l.length - (intOf j).toNat)
            case atStart => exact ⟨0, by omega, rfl, by rw [cntT_zero]; rfl, Below.refl _ _⟩
            case round =>
              obtain ⟨j, hj, rfl, rfl, HJ⟩ := hrel
              by_cases hlt : j < l.length
              · have hjx : j < (telI l n (i + 1)).length := by rw [telI_len]; exact hlt
                have hjc : j < (telI l n i).length := by rw [telI_len]; exact hlt
                obtain ⟨bx, ox, rfl⟩ := wts_addr HX5.out (by omega)
                obtain ⟨bc, oc, rfl⟩ := wts_addr HC5.out (by omega)
                obtain ⟨bf, of, rfl⟩ := wts_addr HF5.out (by omega)
                obtain ⟨x1, x2, x3, x4⟩ := wts_four HX5.out HJ.out j hjx
                obtain ⟨c1, c2, c3, c4⟩ := wts_four HC5.out HJ.out j hjc
                obtain ⟨f1, f2, f3, f4⟩ := wts_four HF5.out HJ.out j hlt
                have HBJ := hide (HB5.out.trans (HJ.out.mono HB5.out.size))
                have HJB := hide HJ.out
                rw [telI_at] at x1 x2 x3 x4 c1 c2 c3 c4
                simp only [upI] at x1 x2 x3 x4 c1 c2 c3 c4
                have hv := HNUM.out l[j] (List.getElem_mem hlt)
                have HT := hide (txt_eq l[j].topic n)
                have hjl : (j : Int) < l.length := by omega
                by_cases ht : l[j].topic = n
                · have hof : ofT n (telI l n (i + 1))[j] = true := by rw [telI_at]; simp [ofT, upI, ht]
                  obtain ⟨hkM, hat⟩ := cntT_at hjx hof
                  have HNX := hide (cntT_hit hjx hof)
                  obtain ⟨bm, om, rfl⟩ := wts_addr HM5.out (by omega)
                  obtain ⟨m1, m2, m3, m4⟩ := wts_four HM5.out HJB.out _ hkM
                  rw [hat, telI_at] at m1 m2 m3 m4
                  simp only [upI] at m1 m2 m3 m4
                  rw [if_pos ht] at x4 c4 m4
                  have ht' : (l[j].topic.toList == n.toList) = true := by rw [HT.out, decide_eq_true ht]
                  have hFF := HF.out _ hv
                  obtain ⟨⟨r1, r2⟩, ⟨r3, r4⟩, ⟨r5, r6⟩⟩ := hFF
                  have CF1 := hide (fun W => fresh_same (addN i l[j].num) (addN (i + 1) l[j].num) W)
                  have CF2 := hide (fun W => fresh_same l[j].num (addN (i + 1) l[j].num) W)
                  have CF3 := hide (fun W => fresh_same (addN (i + 1) l[j].num) l[j].num W)
                  rw [r1, r2] at CF1
                  rw [r3, r4] at CF2
                  rw [r5, r6] at CF3
                  clear r1 r2 r3 r4 r5 r6 hv HT hat hof HX5 HM5 HC5 HF5 HJ HNUM HF
                  have hMl : ((telI l n (i + 1)).filter (ofT n)).length ≤ 12 := Nat.le_trans (List.length_filter_le _ _) (by rw [telI_len]; exact h12)
                  have hkm' : ((cntT n (telI l n (i + 1)) j : Nat) : Int) < (((telI l n (i + 1)).filter (ofT n)).length : Nat) := by omega
                  generalize ((telI l n (i + 1)).filter (ofT n)).length = M at *
                  obtain ⟨Z, hZ⟩ : ∃ Z, cntT n (telI l n (i + 1)) (j + 1) = Z := ⟨_, rfl⟩
                  have HZ2 := hide hZ
                  rw [hZ] at HNX
                  clear hZ
                  generalize cntT n (telI l n (i + 1)) j = K at *
                  generalize addN i l[j].num = v1 at *
                  generalize addN (i + 1) l[j].num = v2 at *
                  generalize l[j].num = v0 at *
                  generalize l[j].topic = t0 at *
                  generalize l[j].token = k0 at *
                  generalize l[j].peer = p0 at *
                  have Q1 := hide (fun (W : World) (q : Nat) => Calls.quiet_of_same (CF1.out (W.drewN q)))
                  have Q2 := hide (fun (W : World) (q : Nat) => Calls.quiet_of_same (CF2.out (W.drewN q)))
                  have Q3 := hide (fun (W : World) (q : Nat) => Calls.quiet_of_same (CF3.out (W.drewN q)))
                  have hkd : decide ((M : Int) ≤ (K : Int)) = false := by simp; omega
                  have hkd' : decide (M ≤ K) = false := by simp; omega
                  have hk0 : (0 : Int) ≤ (K : Int) := by omega
                  have hj0 : (0 : Int) ≤ (j : Int) := by omega
                  clear CF1 CF2 CF3
                  go_wp2_with fail
                  go_big_quiet (exact Q1.out _ _)
                  go_wp2_with fail
                  generalize hWW1 : World.drewN wr _ = W1
                  have x1W1 : W1.cell? ⟨bx, ox + j * 4, none⟩ = some (.int .i64 p0) := by rw [← hWW1]; exact x1
                  have x2W1 : W1.cell? ⟨bx, ox + j * 4 + 1, none⟩ = some (.string k0) := by rw [← hWW1]; exact x2
                  have x3W1 : W1.cell? ⟨bx, ox + j * 4 + 2, none⟩ = some (.string t0) := by rw [← hWW1]; exact x3
                  have x4W1 : W1.cell? ⟨bx, ox + j * 4 + 3, none⟩ = some (.int .i64 v2) := by rw [← hWW1]; exact x4
                  have f4W1 : W1.cell? ⟨bf, of + j * 4 + 3, none⟩ = some (.int .i64 v0) := by rw [← hWW1]; exact f4
                  have m1W1 : W1.cell? ⟨bm, om + K * 4, none⟩ = some (.int .i64 p0) := by rw [← hWW1]; exact m1
                  have m2W1 : W1.cell? ⟨bm, om + K * 4 + 1, none⟩ = some (.string k0) := by rw [← hWW1]; exact m2
                  have m3W1 : W1.cell? ⟨bm, om + K * 4 + 2, none⟩ = some (.string t0) := by rw [← hWW1]; exact m3
                  have m4W1 : W1.cell? ⟨bm, om + K * 4 + 3, none⟩ = some (.int .i64 v2) := by rw [← hWW1]; exact m4
                  have HJW1 : Hid (Below w5.heap.size w5 W1) := by rw [← hWW1]; exact kbelow_drewN HJB.out _
                  clear hWW1 x1 x2 x3 x4 f4 m1 m2 m3 m4 HJB
                  go_big_quiet (exact Q2.out _ _)
                  go_wp2_with fail
                  generalize hWW2 : World.drewN W1 _ = W2
                  have x1W2 : W2.cell? ⟨bx, ox + j * 4, none⟩ = some (.int .i64 p0) := by rw [← hWW2]; exact x1W1
                  have x2W2 : W2.cell? ⟨bx, ox + j * 4 + 1, none⟩ = some (.string k0) := by rw [← hWW2]; exact x2W1
                  have x3W2 : W2.cell? ⟨bx, ox + j * 4 + 2, none⟩ = some (.string t0) := by rw [← hWW2]; exact x3W1
                  have x4W2 : W2.cell? ⟨bx, ox + j * 4 + 3, none⟩ = some (.int .i64 v2) := by rw [← hWW2]; exact x4W1
                  have f4W2 : W2.cell? ⟨bf, of + j * 4 + 3, none⟩ = some (.int .i64 v0) := by rw [← hWW2]; exact f4W1
                  have m1W2 : W2.cell? ⟨bm, om + K * 4, none⟩ = some (.int .i64 p0) := by rw [← hWW2]; exact m1W1
                  have m2W2 : W2.cell? ⟨bm, om + K * 4 + 1, none⟩ = some (.string k0) := by rw [← hWW2]; exact m2W1
                  have m3W2 : W2.cell? ⟨bm, om + K * 4 + 2, none⟩ = some (.string t0) := by rw [← hWW2]; exact m3W1
                  have m4W2 : W2.cell? ⟨bm, om + K * 4 + 3, none⟩ = some (.int .i64 v2) := by rw [← hWW2]; exact m4W1
                  have HJW2 : Hid (Below w5.heap.size w5 W2) := by rw [← hWW2]; exact kbelow_drewN HJW1.out _
                  clear hWW2 x1W1 x2W1 x3W1 x4W1 f4W1 m1W1 m2W1 m3W1 m4W1 HJW1
                  go_big_quiet (exact Q3.out _ _)
                  go_wp2_with fail
                  generalize hWW3 : World.drewN W2 _ = W3
                  have x1W3 : W3.cell? ⟨bx, ox + j * 4, none⟩ = some (.int .i64 p0) := by rw [← hWW3]; exact x1W2
                  have x2W3 : W3.cell? ⟨bx, ox + j * 4 + 1, none⟩ = some (.string k0) := by rw [← hWW3]; exact x2W2
                  have x3W3 : W3.cell? ⟨bx, ox + j * 4 + 2, none⟩ = some (.string t0) := by rw [← hWW3]; exact x3W2
                  have x4W3 : W3.cell? ⟨bx, ox + j * 4 + 3, none⟩ = some (.int .i64 v2) := by rw [← hWW3]; exact x4W2
                  have f4W3 : W3.cell? ⟨bf, of + j * 4 + 3, none⟩ = some (.int .i64 v0) := by rw [← hWW3]; exact f4W2
                  have m1W3 : W3.cell? ⟨bm, om + K * 4, none⟩ = some (.int .i64 p0) := by rw [← hWW3]; exact m1W2
                  have m2W3 : W3.cell? ⟨bm, om + K * 4 + 1, none⟩ = some (.string k0) := by rw [← hWW3]; exact m2W2
                  have m3W3 : W3.cell? ⟨bm, om + K * 4 + 2, none⟩ = some (.string t0) := by rw [← hWW3]; exact m3W2
                  have m4W3 : W3.cell? ⟨bm, om + K * 4 + 3, none⟩ = some (.int .i64 v2) := by rw [← hWW3]; exact m4W2
                  have HJW3 : Hid (Below w5.heap.size w5 W3) := by rw [← hWW3]; exact kbelow_drewN HJW2.out _
                  clear hWW3 x1W2 x2W2 x3W2 x4W2 f4W2 m1W2 m2W2 m3W2 m4W2 HJW2
                  go_big_quiet (fail)
                  go_wp2
                  go_round
                  case rel => exact ⟨j + 1, by omega, by go_num, by rw [HZ2.out, HNX.out]; go_num, kbelow_drewN HJW3.out _⟩
                  case measure => simp [intOf]; omega
                · have hof : ofT n (telI l n (i + 1))[j] = false := by rw [telI_at]; simp [ofT, upI, ht]
                  have HNX := hide (cntT_miss hjx hof)
                  rw [if_neg ht] at x4 c4
                  have ht' : (l[j].topic.toList == n.toList) = false := by rw [HT.out, decide_eq_false ht]
                  clear hv HT hof HX5 HM5 HC5 HF5 HJ HNUM HF ht f1 f2 f3 f4
                  obtain ⟨Z, hZ⟩ : ∃ Z, cntT n (telI l n (i + 1)) (j + 1) = Z := ⟨_, rfl⟩
                  have HZ2 := hide hZ
                  rw [hZ] at HNX
                  clear hZ
                  generalize cntT n (telI l n (i + 1)) j = K at *
                  generalize l[j].num = v0 at *
                  generalize l[j].topic = t0 at *
                  generalize l[j].token = k0 at *
                  generalize l[j].peer = p0 at *
                  go_wp2_with fail
                  go_big_quiet (fail)
                  go_wp2
                  go_round
                  case rel => exact ⟨j + 1, by omega, by go_num, by rw [HZ2.out, HNX.out], kbelow_drewN HJB.out _⟩
                  case measure => simp [intOf]; omega
              · obtain rfl : j = l.length := by omega
                have HE := hide (cntT_end (n := n) (x := telI l n (i + 1)) (j := l.length) (by rw [telI_len]; exact Nat.le_refl _))
                have HXJ := hide (HX5.out.below HJ.out)
                have HBJ := hide (HB5.out.trans (HJ.out.mono HB5.out.size))
                rw [HE.out]
                clear HE HX5 HM5 HC5 HF5 HJ HB5 HNUM HF
                generalize ((telI l n (i + 1)).filter (ofT n)).length = M at *
                go_wp2
                go_round
                case rel => exact ⟨i + 1, ab, cb, by omega, by go_num, rfl, hcb, HXJ.out, HBJ.out⟩
                case measure => simp [intOf]; omega
          · have h4' : ¬ (i : Int) < 50 := by omega
            have HB := hide HR.out.2
            go_wp2
            go_ret
            exact ⟨rfl, HB.out⟩
        · have HB := hide HR.out.2
          go_wp2
          go_ret
          exact ⟨rfl, HB.out⟩
    · have h2' : (chk nameF n != 0) = true := by simp [h2]
      rw [h1] at C1
      clear hl hm hs hn h1 h2
      generalize chk nameF n = N at *
      go_enter Tryd.func3, Tryd.ntmps3
      go_wp2_with fail
      refine C0.out.mono ?_
      rintro e w1 ⟨rfl, hb1⟩
      have HB1 := hide hb1
      clear hb1 C0
      go_wp2_with fail
      refine (C1.out _ HB1.out).mono ?_
      rintro e w2 ⟨rfl, hb2⟩
      have HB2 := hide (below_step HB1.out hb2)
      clear hb2 C1 HB1
      go_wp2_with fail
      refine (C2.out _).mono ?_
      rintro e w3 ⟨rfl, hb3⟩
      have HB3 := hide (below_step HB2.out hb3)
      clear hb3 C2 HB2
      go_wp2
      go_ret
      exact ⟨rfl, HB3.out⟩
  · have h1' : (wchkK l != 0) = true := by simp [h1]
    clear hl hm hs hn h1 C2
    generalize wchkK l = N at *
    go_enter Tryd.func3, Tryd.ntmps3
    go_wp2_with fail
    refine C0.out.mono ?_
    rintro e w1 ⟨rfl, hb1⟩
    have HB1 := hide hb1
    clear hb1 C0
    go_wp2_with fail
    refine (C1.out _ HB1.out).mono ?_
    rintro e w2 ⟨rfl, hb2⟩
    have HB2 := hide (below_step HB1.out hb2)
    clear hb2 C1 HB1
    go_wp2
    go_ret
    exact ⟨rfl, HB2.out⟩
end Go.Proofs.YtbodjfmbdddieafDoor
