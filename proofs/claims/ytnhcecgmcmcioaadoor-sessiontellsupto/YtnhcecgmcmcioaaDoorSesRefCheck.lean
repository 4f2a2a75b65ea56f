/-
  dragomanref.CheckSession: what it answers.
-/
import Derived.Test.YtnhcecgmcmcioaaDoorSesRef
namespace Go.Proofs.YtnhcecgmcmcioaaDoor
open Go.RowKit Go.PlainAid

set_option maxHeartbeats 8000000 in
set_option maxRecDepth 100000 in
theorem checkSession_any (s : Se) (aa ab : Option Addr) (ca cb : Nat) (w : World) (hs : SeIn w s aa ab) (h1 : s.client.size ≤ maxLen) (hz : ∀ f, f ∈ s.fl ∨ f ∈ s.qu → f.topic.size ≤ 1048576) :
    Calls Tryd.prog 9 #[seV s aa ca ab cb] w fun e w' => e = .returned (.int .i64 (chkS s)) ∧ Below w.heap.size w w' := by
  have HE : Hid (chkS s = if clB s.client = false then 1 else if 3 < s.fl.length ∨ 6 < s.qu.length then 2 else if fchkL [] s.fl ≠ 0 then fchkL [] s.fl else if qchkL s.qu ≠ 0 then qchkL s.qu else if idOk s.next = false then 3 else if settled s = false then 4 else 0) := rfl
  have HF := hide (hs.1.below ((Below.refl w.heap.size w).alloc (Nat.le_refl _) (.cells #[.string s.client, .bool s.on, .bool s.clean, .slice aa s.fl.length ca, .slice ab s.qu.length cb, .int .i64 s.next] 24)))
  have HU := hide (hs.2.below ((Below.refl w.heap.size w).alloc (Nat.le_refl _) (.cells #[.string s.client, .bool s.on, .bool s.clean, .slice aa s.fl.length ca, .slice ab s.qu.length cb, .int .i64 s.next] 24)))
  have D0 := hide (sat_new s (.slice aa s.fl.length ca) (.slice ab s.qu.length cb) w)
  have HB0 := hide ((Below.refl w.heap.size w).alloc (Nat.le_refl _) (.cells #[.string s.client, .bool s.on, .bool s.clean, .slice aa s.fl.length ca, .slice ab s.qu.length cb, .int .i64 s.next] 24))
  have CI := hide (fun V => isClB_any s.client V h1)
  have HZ := hide hz
  generalize chkS s = E at *
  clear hs h1 hz
  simp only [seV]
  go_enter Tryd.func9, Tryd.ntmps9
  go_upto_region 1 with fail
  revert HF HU D0 HB0
  generalize w.alloc (.cells #[.string s.client, .bool s.on, .bool s.clean, .slice aa s.fl.length ca, .slice ab s.qu.length cb, .int .i64 s.next] 24) = W0
  intro HF HU D0 HB0
  have x1 := D0.out.cell
  generalize hCB : clB s.client = CB at *
  cases CB with
  | false =>
    have HQ := hide (HE.out.trans (if_pos rfl))
    clear hCB HE
    go_wp2_with fail
    refine (CI.out _).mono ?_
    rintro e w1 ⟨rfl, rfl⟩
    go_wp2
    go_ret
    exact ⟨by rw [HQ.out]; rfl, HB0.out⟩
  | true =>
    have HE1 := hide (HE.out.trans (if_neg (by decide)))
    clear hCB HE
    go_wp2_with fail
    refine (CI.out _).mono ?_
    rintro e W1 ⟨rfl, hw⟩
    subst hw
    clear CI
    by_cases hm : 3 < s.fl.length ∨ 6 < s.qu.length
    · have HQ := hide (HE1.out.trans (if_pos hm))
      clear HE1
      by_cases h3 : (3 : Int) < s.fl.length
      · clear hm
        go_wp2
        go_ret
        exact ⟨by rw [HQ.out]; rfl, HB0.out⟩
      · have h6 : (6 : Int) < s.qu.length := by omega
        clear hm
        go_wp2
        go_ret
        exact ⟨by rw [HQ.out]; rfl, HB0.out⟩
    · have HE2 := hide (HE1.out.trans (if_neg hm))
      have h3 : ¬ (3 : Int) < s.fl.length := by omega
      have h6 : ¬ (6 : Int) < s.qu.length := by omega
      clear hm HE1
      generalize hFF : fchkL [] s.fl = F at *
      have HFF := hide hFF
      clear hFF x1
      have x1 := D0.out.cell
      have HSE := hide (show SeIn W1 s aa ab from ⟨HF.out, HU.out⟩)
      have hlc : w.heap.size < W1.heap.size := D0.out.lt
      clear HF HU
      go_wp2
      go_loopw [3] (fun i wr => ∃ k : Nat, k ≤ s.fl.length ∧ i = .int .i64 k ∧ Hid (fchkL (s.fl.take k) (s.fl.drop k) = F ∧ Below W1.heap.size W1 wr)) (fun i _ => s.fl.length - (intOf i).toNat)
      case atStart => exact ⟨0, by omega, rfl, HFF.out, Below.refl _ _⟩
      case round =>
        obtain ⟨k, hk, rfl, HR⟩ := hrel
        have x1 : ∀ o, wr.cell? ⟨w.heap.size, o, none⟩ = (#[.string s.client, .bool s.on, .bool s.clean, .slice aa s.fl.length ca, .slice ab s.qu.length cb, .int .i64 s.next] : Array Value)[o]? := fun o => (HR.out.2.cell (p := ⟨w.heap.size, o, none⟩) hlc).trans (D0.out.cell o)
        by_cases hlt : k < s.fl.length
        · obtain ⟨b, o, rfl, hb, hcell⟩ := fls_here HSE.out.1 hlt
          have HCELL := hide hcell
          have hk1 : wr.cell? ⟨b, o + k * 3, none⟩ = some (.int .i64 s.fl[k].id) := (HR.out.2.cell (p := ⟨b, _, none⟩) hb).trans (hcell k hlt).1
          have hk2 : wr.cell? ⟨b, o + k * 3 + 1, none⟩ = some (.string s.fl[k].topic) := (HR.out.2.cell (p := ⟨b, _, none⟩) hb).trans (hcell k hlt).2.1
          have hk3 : wr.cell? ⟨b, o + k * 3 + 2, none⟩ = some (.string s.fl[k].load) := (HR.out.2.cell (p := ⟨b, _, none⟩) hb).trans (hcell k hlt).2.2
          have HS : Hid (_ = F) := (fchkL_step s.fl k hlt).symm.trans HR.out.1
          have C := hide (fun V => refFlight_any s.fl[k] V (HZ.out _ (.inl (List.getElem_mem hlt))))
          have HBR := hide HR.out.2
          have hli : (k : Int) < s.fl.length := by omega
          clear hcell HR HFF
          generalize hid : s.fl[k].id = id at *
          have HID := hide hid
          have hCv : flV s.fl[k] = .agg #[.int .i64 id, .string s.fl[k].topic, .string s.fl[k].load] := by unfold flV; rw [hid]
          rw [hCv] at C
          clear hCv hid
          generalize s.fl[k].topic = t at *
          generalize s.fl[k].load = p at *
          generalize toldE t p = Q at *
          go_wp2_with fail
          refine (C.out _).mono ?_
          rintro e w1 ⟨rfl, hb1⟩
          have HB1 := hide (below_step HBR.out hb1)
          have x2 : ∀ z, w1.cell? ⟨w.heap.size, z, none⟩ = (#[.string s.client, .bool s.on, .bool s.clean, .slice (some ⟨b, o, none⟩) s.fl.length ca, .slice ab s.qu.length cb, .int .i64 s.next] : Array Value)[z]? := fun z => (HB1.out.cell (p := ⟨w.heap.size, z, none⟩) hlc).trans (D0.out.cell z)
          have hj1 : w1.cell? ⟨b, o + k * 3, none⟩ = some (.int .i64 id) := (HB1.out.cell (p := ⟨b, _, none⟩) hb).trans (by have := (HCELL.out k hlt).1; rwa [HID.out] at this)
          clear hb1 hk1 hk2 hk3 C HBR x1
          have HB1' := hide (HB0.out.trans (HB1.out.mono (by omega)))
          by_cases h1 : Q = 0
          · have h1' : (Q != 0) = false := by simp [h1]
            have HS1 : Hid ((if idOk id = false then 3 else if (s.fl.take k).any (isI id) = true then 6 else fchkL (s.fl.take (k + 1)) (s.fl.drop (k + 1))) = F) := by have := HS.out; rwa [if_neg (show ¬ Q ≠ 0 by simp [h1])] at this
            clear HS h1
            have CB : Hid (∀ V, Calls Tryd.prog 32 #[.int .i64 id, .int .i64 1, .int .i64 65535] V fun e w' => e = .returned (.bool (idOk id)) ∧ w' = V) := fun V => between_any id 1 65535 V
            generalize idOk id = B at *
            cases B with
            | false =>
              have HQ : Hid (E = 3) := by refine hide ?_; have hf : (3 : Int) = F := HS1.out; rw [HE2.out, ← hf]; rfl
              clear HE2
              go_wp2_with fail
              refine (CB.out _).mono ?_
              rintro e w2 ⟨rfl, hw⟩
              subst hw
              go_wp2
              go_ret
              exact ⟨by rw [HQ.out]; rfl, HB1'.out⟩
            | true =>
              have HS2 : Hid ((if (s.fl.take k).any (isI id) = true then 6 else fchkL (s.fl.take (k + 1)) (s.fl.drop (k + 1))) = F) := HS1.out
              clear HS1
              go_wp2_with fail
              refine (CB.out _).mono ?_
              rintro e W2 ⟨rfl, hw⟩
              subst hw
              clear CB
              go_wp2
              go_loopw [5] (fun i wr => ∃ j : Nat, j ≤ k ∧ i = .int .i64 j ∧ Hid ((s.fl.take j).any (isI id) = false ∧ Below W2.heap.size W2 wr)) (fun i _ => k - (intOf i).toNat)
              case atStart => exact ⟨0, by omega, rfl, by simp, Below.refl _ _⟩
              case round =>
                obtain ⟨j, hj, rfl, HJ⟩ := hrel
                have hlc2 : w.heap.size < W2.heap.size := Nat.lt_of_lt_of_le hlc HB1.out.size
                have hb2 : b < W2.heap.size := Nat.lt_of_lt_of_le hb HB1.out.size
                by_cases hjk : j < k
                · have g3 : wr.cell? ⟨w.heap.size, 3, none⟩ = some (.slice (some ⟨b, o, none⟩) s.fl.length ca) := (HJ.out.2.cell (p := ⟨w.heap.size, 3, none⟩) hlc2).trans (x2 3)
                  have g0 : wr.cell? ⟨b, o + k * 3, none⟩ = some (.int .i64 id) := (HJ.out.2.cell (p := ⟨b, _, none⟩) hb2).trans hj1
                  have g1 : wr.cell? ⟨b, o + j * 3, none⟩ = some (.int .i64 s.fl[j].id) := (HJ.out.2.cell (p := ⟨b, _, none⟩) hb2).trans ((HB1.out.cell (p := ⟨b, _, none⟩) hb).trans (HCELL.out j (by omega)).1)
                  have HBJ := hide (HB1'.out.trans (HJ.out.2.mono (by omega)))
                  have HJB := hide HJ.out.2
                  have HM1 : Hid (isI id s.fl[j] = false → (s.fl.take (j + 1)).any (isI id) = false) := fun h => any_more_f (by omega) HJ.out.1 h
                  have HM2 : Hid (isI id s.fl[j] = true → F = 6) := fun h => by rw [← HS2.out, if_pos (any_hit_f (by omega) hjk h)]
                  have HW : Hid (isI id s.fl[j] = (s.fl[j].id == id)) := rfl
                  have hjl : (j : Int) < s.fl.length := by omega
                  have hjki : (j : Int) < k := by omega
                  clear HJ HS2
                  generalize isI id s.fl[j] = Y at *
                  generalize s.fl[j].id = q at *
                  by_cases h2 : q = id
                  · have h2' : (q == id) = true := by simp [h2]
                    have HQ : Hid (E = 6) := by refine hide ?_; have hf := HM2.out (by rw [HW.out, h2']); rw [HE2.out, hf]; rfl
                    clear HW HM1 HM2 h2 HE2
                    go_wp2_with fail
                    go_big_quiet (fail)
                    go_wp2
                    go_ret
                    exact ⟨by rw [HQ.out]; rfl, kbelow_drewN HBJ.out _⟩
                  · have h2' : (q == id) = false := by simp [h2]
                    have HQ := hide (HM1.out (by rw [HW.out, h2']))
                    clear HW HM1 HM2 h2
                    go_wp2_with fail
                    go_big_quiet (fail)
                    go_wp2
                    go_round
                    case rel => exact ⟨j + 1, by omega, by go_num, HQ.out, kbelow_drewN HJB.out _⟩
                    case measure => simp [intOf]; omega
                · obtain rfl : j = k := by omega
                  have HQ : Hid (fchkL (s.fl.take (j + 1)) (s.fl.drop (j + 1)) = F) := by show _ = _; rw [← HS2.out, HJ.out.1, if_neg (by decide)]
                  have HBJ := hide (HB1.out.trans (HJ.out.2.mono HB1.out.size))
                  clear HS2 HJ
                  go_wp2
                  go_round
                  case rel => exact ⟨j + 1, by omega, by go_num, HQ.out, HBJ.out⟩
                  case measure => simp [intOf]; omega
          · have h1' : (Q != 0) = true := by simp [h1]
            have HQ : Hid (E = Q) := by refine hide ?_; have hf : Q = F := (by have := HS.out; rwa [if_pos h1] at this); rw [HE2.out, ← hf, if_pos h1]
            clear HS h1 HE2
            go_wp2
            go_ret
            exact ⟨by rw [HQ.out]; rfl, HB1'.out⟩
        · have hke : s.fl.drop k = [] := List.drop_eq_nil_of_le (by omega)
          have hF0 : F = 0 := by have := HR.out.1; rw [hke, fchkL] at this; exact this.symm
          have HE3 := hide (HE2.out.trans (if_neg (show ¬ F ≠ 0 by simp [hF0])))
          have HBR := hide HR.out.2
          have hkl : ¬ (k : Int) < s.fl.length := by omega
          clear hke hF0 HR HFF HE2
          generalize hG : qchkL s.qu = G at *
          have HGG := hide hG
          clear hG
          go_wp2
          go_loopw [6] (fun i wr => ∃ k : Nat, k ≤ s.qu.length ∧ i = .int .i64 k ∧ Hid (qchkL (s.qu.drop k) = G ∧ Below W1.heap.size W1 wr)) (fun i _ => s.qu.length - (intOf i).toNat)
          case atStart => exact ⟨0, by omega, rfl, HGG.out, HBR.out⟩
          case round =>
            clear x1
            obtain ⟨k, hk, rfl, HR⟩ := hrel
            have x1 : ∀ o, wr.cell? ⟨w.heap.size, o, none⟩ = (#[.string s.client, .bool s.on, .bool s.clean, .slice aa s.fl.length ca, .slice ab s.qu.length cb, .int .i64 s.next] : Array Value)[o]? := fun o => (HR.out.2.cell (p := ⟨w.heap.size, o, none⟩) hlc).trans (D0.out.cell o)
            have HBW := hide (HB0.out.trans (HR.out.2.mono (by omega)))
            by_cases hlt : k < s.qu.length
            · obtain ⟨b, o, rfl, hb, hcell⟩ := fls_here HSE.out.2 hlt
              have hk1 : wr.cell? ⟨b, o + k * 3, none⟩ = some (.int .i64 s.qu[k].id) := (HR.out.2.cell (p := ⟨b, _, none⟩) hb).trans (hcell k hlt).1
              have hk2 : wr.cell? ⟨b, o + k * 3 + 1, none⟩ = some (.string s.qu[k].topic) := (HR.out.2.cell (p := ⟨b, _, none⟩) hb).trans (hcell k hlt).2.1
              have hk3 : wr.cell? ⟨b, o + k * 3 + 2, none⟩ = some (.string s.qu[k].load) := (HR.out.2.cell (p := ⟨b, _, none⟩) hb).trans (hcell k hlt).2.2
              have HS : Hid (_ = G) := (qchkL_step s.qu k hlt).symm.trans HR.out.1
              have C := hide (fun V => refFlight_any s.qu[k] V (HZ.out _ (.inr (List.getElem_mem hlt))))
              have HBR2 := hide HR.out.2
              have hli : (k : Int) < s.qu.length := by omega
              have hck := (hcell k hlt).1
              clear hcell HR HGG HBR
              generalize s.qu[k] = f at *
              obtain ⟨id, t, p⟩ := f
              simp only [flV] at hk1 hk2 hk3 C HS hck
              generalize toldE t p = Q at *
              go_wp2_with fail
              refine (C.out _).mono ?_
              rintro e w1 ⟨rfl, hb1⟩
              have HB1 := hide (below_step HBR2.out hb1)
              have x2 : ∀ z, w1.cell? ⟨w.heap.size, z, none⟩ = (#[.string s.client, .bool s.on, .bool s.clean, .slice aa s.fl.length ca, .slice (some ⟨b, o, none⟩) s.qu.length cb, .int .i64 s.next] : Array Value)[z]? := fun z => (HB1.out.cell (p := ⟨w.heap.size, z, none⟩) hlc).trans (D0.out.cell z)
              have hj1 : w1.cell? ⟨b, o + k * 3, none⟩ = some (.int .i64 id) := (HB1.out.cell (p := ⟨b, _, none⟩) hb).trans hck
              clear hb1 hk1 hk2 hk3 C HBR2 x1 hck
              have HB1' := hide (HB0.out.trans (HB1.out.mono (by omega)))
              by_cases h1 : Q = 0
              · have h1' : (Q != 0) = false := by simp [h1]
                have HS1 : Hid ((if id ≠ 0 then 1 else qchkL (s.qu.drop (k + 1))) = G) := by have := HS.out; rwa [if_neg (show ¬ Q ≠ 0 by simp [h1])] at this
                clear HS h1
                by_cases h2 : id = 0
                · have h2' : (id != 0) = false := by simp [h2]
                  have HQ : Hid (qchkL (s.qu.drop (k + 1)) = G) := by have := HS1.out; rwa [if_neg (by simp [h2])] at this
                  clear h2 HS1
                  go_wp2
                  go_round
                  case rel => exact ⟨k + 1, by omega, by go_num, HQ.out, HB1.out⟩
                  case measure => simp [intOf]; omega
                · have h2' : (id != 0) = true := by simp [h2]
                  have HQ : Hid (E = 1) := by refine hide ?_; have hf : (1 : Int) = G := (by have := HS1.out; rwa [if_pos h2] at this); rw [HE3.out, ← hf]; rfl
                  clear h2 HS1 HE3
                  go_wp2
                  go_ret
                  exact ⟨by rw [HQ.out]; rfl, HB1'.out⟩
              · have h1' : (Q != 0) = true := by simp [h1]
                have HQ : Hid (E = Q) := by refine hide ?_; have hf : Q = G := (by have := HS.out; rwa [if_pos h1] at this); rw [HE3.out, ← hf, if_pos h1]
                clear HS h1 HE3
                go_wp2
                go_ret
                exact ⟨by rw [HQ.out]; rfl, HB1'.out⟩
            · have hke : s.qu.drop k = [] := List.drop_eq_nil_of_le (by omega)
              have hG0 : G = 0 := by have := HR.out.1; rw [hke, qchkL] at this; exact this.symm
              have HE4 := hide (HE3.out.trans (if_neg (show ¬ G ≠ 0 by simp [hG0])))
              have hkq : ¬ (k : Int) < s.qu.length := by omega
              clear hke hG0 HR HGG HE3
              have CB : Hid (∀ V, Calls Tryd.prog 32 #[.int .i64 s.next, .int .i64 1, .int .i64 65535] V fun e w' => e = .returned (.bool (idOk s.next)) ∧ w' = V) := fun V => between_any s.next 1 65535 V
              generalize idOk s.next = B at *
              cases B with
              | false =>
                have HQ := hide (HE4.out.trans (if_pos rfl))
                clear HE4
                go_wp2_with fail
                refine (CB.out _).mono ?_
                rintro e w2 ⟨rfl, hw⟩
                subst hw
                go_wp2
                go_ret
                exact ⟨by rw [HQ.out]; rfl, HBW.out⟩
              | true =>
                have HE5 := hide (HE4.out.trans (if_neg (by decide)))
                clear HE4
                have HST : Hid (settled s = cond s.on (decide (s.qu.length = 0) || decide (s.fl.length = 3)) (!s.clean || (decide (s.fl.length = 0) && decide (s.qu.length = 0)))) := rfl
                go_wp2_with fail
                refine (CB.out _).mono ?_
                rintro e w2 ⟨rfl, hw⟩
                subst hw
                clear CB
                generalize settled s = ST at *
                generalize s.on = on at *
                generalize s.clean = clean at *
                generalize s.fl.length = nf at *
                generalize s.qu.length = nq at *
                cases on with
                | true =>
                  by_cases hq : nq = 0
                  · subst hq
                    have HQ : Hid (E = 0) := by refine hide ?_; rw [HE5.out, HST.out]; rfl
                    clear HE5 HST
                    go_wp2
                    go_ret
                    exact ⟨by rw [HQ.out]; rfl, HBW.out⟩
                  · have hqi : (0 : Int) < nq := by omega
                    by_cases hf : nf = 3
                    · subst hf
                      have HQ : Hid (E = 0) := by refine hide ?_; rw [HE5.out, HST.out]; simp
                      clear HE5 HST hq
                      go_wp2
                      go_ret
                      exact ⟨by rw [HQ.out]; rfl, HBW.out⟩
                    · have hfi : (nf : Int) < 3 := by omega
                      have HQ : Hid (E = 4) := by refine hide ?_; rw [HE5.out, HST.out]; simp [hq, hf]
                      clear HE5 HST hq hf
                      go_wp2
                      go_ret
                      exact ⟨by rw [HQ.out]; rfl, HBW.out⟩
                | false =>
                  cases clean with
                  | false =>
                    have HQ : Hid (E = 0) := by refine hide ?_; rw [HE5.out, HST.out]; rfl
                    clear HE5 HST
                    go_wp2
                    go_ret
                    exact ⟨by rw [HQ.out]; rfl, HBW.out⟩
                  | true =>
                    by_cases hz0 : nf + nq = 0
                    · have hf : nf = 0 := by omega
                      have hq : nq = 0 := by omega
                      subst hf hq
                      have HQ : Hid (E = 0) := by refine hide ?_; rw [HE5.out, HST.out]; rfl
                      clear HE5 HST hz0
                      go_wp2
                      go_ret
                      exact ⟨by rw [HQ.out]; rfl, HBW.out⟩
                    · have hzi : (0 : Int) < (nf : Int) + nq := by omega
                      have HQ : Hid (E = 4) := by
                        refine hide ?_
                        rw [HE5.out, HST.out]
                        by_cases hf : nf = 0
                        · have hq : nq ≠ 0 := by omega
                          simp [hf, hq]
                        · simp [hf]
                      have hfb : (nf : Int) ≤ 3 := by omega
                      have hqb : (nq : Int) ≤ 6 := by omega
                      clear HE5 HST hz0
                      go_wp2
                      go_ret
                      exact ⟨by rw [HQ.out]; rfl, HBW.out⟩
end Go.Proofs.YtnhcecgmcmcioaaDoor
