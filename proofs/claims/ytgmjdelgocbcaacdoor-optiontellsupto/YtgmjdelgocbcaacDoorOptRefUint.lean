/-
  The reference's UintOf, and blockOf: what they answer.
-/
import Derived.Test.YtgmjdelgocbcaacDoorOptRefSmall
namespace Go.Proofs.YtgmjdelgocbcaacDoor
open Go.RowKit Go.PlainAid

theorem vals_app (a b : List Op2) (n : Int) : valsL (a ++ b) n = valsL a n ++ valsL b n := by
  unfold valsL; rw [List.filter_append, List.map_append]
theorem vals_snoc (l : List Op2) (n : Int) (k : Nat) (h : k < l.length) : valsL (l.take (k + 1)) n = valsL (l.take k) n ++ (if l[k].1 = n then [l[k].2] else []) := by
  rw [List.take_succ_eq_append_getElem h, vals_app]
  congr 1
  unfold valsL
  by_cases e : l[k].1 = n <;> simp [e]
theorem vals_first (l : List Op2) (n : Int) (k : Nat) (h : k < l.length) (h0 : valsL (l.take k) n = []) (h1 : l[k].1 = n) : ∃ r, valsL l n = l[k].2 :: r := by
  have e := List.take_append_drop (k + 1) l
  refine ⟨valsL (l.drop (k + 1)) n, ?_⟩
  conv => lhs; rw [← e]
  rw [vals_app, vals_snoc l n k h, h0, if_pos h1]; rfl

set_option maxHeartbeats 4000000 in
set_option maxRecDepth 100000 in
theorem uintOf_any (m : Mg) (ao : Option Addr) (co : Nat) (n : Int) (w : World) (hl : OptsIn w ao m.opts) (hc : chkM m = 0) :
    Calls Tryd.prog 17 #[mgV m ao co, .int .i64 n] w fun e w' => e = .returned (.tuple #[.int .i64 (frsN (valsL m.opts n)), .int .i64 (frsE (valsL m.opts n))]) ∧ Below w.heap.size w w' := by
  have h12 := (chkM_ok hc).2.2.2.2.1
  have HL := hide hl
  have HF : Hid (∀ k (h : k < m.opts.length), valsL (m.opts.take (k + 1)) n = valsL (m.opts.take k) n ++ (if m.opts[k].1 = n then [m.opts[k].2] else [])) := fun k h => vals_snoc _ _ k h
  have HG : Hid (∀ k (h : k < m.opts.length), valsL (m.opts.take k) n = [] → m.opts[k].1 = n → ∃ r, valsL m.opts n = m.opts[k].2 :: r) := fun k h => vals_first _ _ k h
  clear hl hc
  obtain ⟨k, c, i, t, l, p⟩ := m
  simp only [mgV] at *
  generalize hV : valsL l n = V at *
  obtain ⟨N, HN⟩ : ∃ N, Hid (frsN V = N) := ⟨_, rfl⟩
  obtain ⟨E, HE⟩ : ∃ E, Hid (frsE V = E) := ⟨_, rfl⟩
  rw [HN.out, HE.out]
  have HB0 := hide ((Below.refl w.heap.size w).alloc (Nat.le_refl _) (.cells #[.int .i64 k, .int .i64 c, .int .i64 i, .string t, .slice ao l.length co, .string p] 24))
  have HX0 : Hid ((w.alloc (.cells #[.int .i64 k, .int .i64 c, .int .i64 i, .string t, .slice ao l.length co, .string p] 24)).heap[w.heap.size]? = some (.cells #[.int .i64 k, .int .i64 c, .int .i64 i, .string t, .slice ao l.length co, .string p] 24 (0, 0))) := Go.heap_alloc_new w _
  have HVV := hide hV
  clear hV
  go_enter Tryd.func17, Tryd.ntmps17
  go_upto_region 1 with fail
  revert HB0 HX0
  generalize w.alloc (.cells #[.int .i64 k, .int .i64 c, .int .i64 i, .string t, .slice ao l.length co, .string p] 24) = W0
  intro HB0 HX0
  have z4 : W0.cell? ⟨w.heap.size, 4, none⟩ = some (.slice ao l.length co) := Lib.cell_of_heap HX0.out 4
  go_wp2_with fail
  go_loop [6] (fun x => ∃ j : Nat, j ≤ l.length ∧ x = .int .i64 j ∧ Hid (valsL (l.take j) n = [])) (fun x => l.length - (intOf x).toNat)
  case atStart => exact ⟨0, by omega, rfl, rfl⟩
  case round =>
    obtain ⟨j, hj, rfl, HR⟩ := hrel
    by_cases hlt : j < l.length
    · have hlt' : (j : Int) < l.length := by omega
      obtain ⟨b, o, rfl, hb, hcell⟩ := opts_here HL.out hlt
      have hk1 : W0.cell? ⟨b, o + j * 2, none⟩ = some (.int .i64 l[j].1) := by rw [HB0.out.cell (p := ⟨b, _, none⟩) hb]; exact (hcell j hlt).1
      have hk2 : W0.cell? ⟨b, o + j * 2 + 1, none⟩ = some (.string l[j].2) := by rw [HB0.out.cell (p := ⟨b, _, none⟩) hb]; exact (hcell j hlt).2
      have HSN := hide (HF.out j hlt)
      have HFR := hide (HG.out j hlt HR.out)
      clear hcell HF HG HVV
      generalize l[j] = x at *
      obtain ⟨y1, y2⟩ := x
      simp only at hk1 hk2 HSN HFR
      by_cases hyn : y1 = n
      · obtain ⟨r, hr⟩ := HFR.out hyn
        have hyn' : (y1 != n) = false := by simp [hyn]
        subst hr
        clear HFR HSN
        by_cases h3 : 3 < y2.size
        · have hq : N = 0 ∧ E = 1 := ⟨by rw [← HN.out, frsN, if_pos h3], by rw [← HE.out, frsE, if_pos h3]⟩
          obtain ⟨rfl, rfl⟩ := hq
          have h3' : (3 : Int) < y2.size := by omega
          clear HN HE h3
          go_wp2
          go_ret2
          exact ⟨rfl, HB0.out⟩
        · have HNQ : Hid (N = (beN y2 0 y2.size : Int)) := by rw [← HN.out, frsN, if_neg h3]; exact rfl
          have HEQ : Hid (E = 0) := by rw [← HE.out, frsE, if_neg h3]; exact rfl
          have h3' : (y2.size : Int) ≤ 3 := by omega
          clear HN HE
          go_wp2_with fail
          go_loop [8, 9] (fun nn kk => ∃ q : Nat, q ≤ y2.size ∧ kk = .int .i64 q ∧ nn = .int .i64 (beN y2 0 q)) (fun _ kk => y2.size - (intOf kk).toNat)
          case atStart => exact ⟨0, Nat.zero_le _, rfl, rfl⟩
          case round =>
            obtain ⟨q, hq, rfl, rfl⟩ := hrel
            by_cases hlt2 : q < y2.size
            · have h1 := beN_lt y2 0 q
              have h2 := pow256_le (show q ≤ 3 by omega)
              have hn : (beN y2 0 q : Int) ≤ 16777215 := by omega
              clear h1 h2
              have hst := getOf_step y2 0 q (by omega)
              simp only [Nat.zero_add] at hst
              have hst' := hide hst
              clear hst
              go_wp2
              go_round
              case rel =>
                have hb := y2[q].toNat_lt
                refine ⟨q + 1, by omega, by go_num, ?_⟩
                rw [← hst'.out]
                first | rfl | go_num | (simp only [w64 _ (show -9223372036854775808 ≤ (y2[q].toNat : Int) ∧ (y2[q].toNat : Int) ≤ 9223372036854775807 by omega)]; first | rfl | (rw [w64 _ (by omega)]))
              case measure => simp [intOf]; omega
            · have : q = y2.size := by omega
              subst this
              go_wp2
              go_ret2
              exact ⟨by rw [HNQ.out, HEQ.out]; rfl, HB0.out⟩
      · have HQ : Hid (valsL (l.take (j + 1)) n = []) := by have := HSN.out; rw [if_neg hyn, HR.out] at this; exact this
        have hyn' : (y1 != n) = true := by simp [hyn]
        clear HSN HFR
        go_wp2
        go_round
        case rel => exact ⟨j + 1, by omega, by go_num, HQ⟩
        case measure => simp [intOf]; omega
    · have hge : (l.length : Int) ≤ j := by omega
      have hke : l.take j = l := List.take_of_length_le (by omega)
      have hV0 : V = [] := by rw [← HVV.out, ← hke]; exact HR.out
      subst hV0
      have hq : N = 0 ∧ E = 5 := ⟨HN.out.symm, HE.out.symm⟩
      obtain ⟨rfl, rfl⟩ := hq
      clear HF HG HVV HN HE hke HR
      go_wp2
      go_ret2
      exact ⟨rfl, HB0.out⟩
end Go.Proofs.YtgmjdelgocbcaacDoor
