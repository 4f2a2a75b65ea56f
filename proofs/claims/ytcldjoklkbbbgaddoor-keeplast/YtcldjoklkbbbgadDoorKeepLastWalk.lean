/-
  KeepLast: the walk through the law, by the contracts of what it calls.
-/
import Derived.Test.YtcldjoklkbbbgadDoorKeepBegun
namespace Go.Proofs.YtcldjoklkbbbgadDoor
open Go.RowKit Go.PlainAid

set_option maxHeartbeats 4000000 in
set_option maxRecDepth 100000 in
theorem keepLast_walk (l : List Kp) (ao : Option Addr) (co : Nat) (n p o : ByteArray) (w : World) (hl : KpsIn w ao l) (hm : Max w) :
    Calls Tryd.prog 4 #[.slice ao l.length co, .string n, .string p, .string o] w fun e w' => e = .returned (.bool true) ∧ Below w.heap.size w w' := by
  have C0 := hide (keepBegun_yes w hm)
  have CP : Hid (∀ W, Below w.heap.size w W → Calls Tryd.prog 5 #[.slice ao l.length co, .string n, .string p] W (KPost W (putA l n p) (putE l n p))) := fun W h => kput_any l n p ao co W (hl.below h) (hm.below h)
  by_cases hE : putE l n p = 0
  · have hA : putA l n p = putL l n p := if_pos hE
    have hg := get_put hE
    have hc := put_check hE
    rw [hA, hE] at CP
    have CG1 : Hid (∀ W aa ca, Below w.heap.size w W → KpsIn W aa (putL l n p) → Calls Tryd.prog 6 #[.slice aa (putL l n p).length ca, .string n] W fun e w' => e = .returned (.tuple #[.agg #[.string (getK (putL l n p) n).topic, .string (getK (putL l n p) n).payload, .int .i64 (getK (putL l n p) n).ver], .int .i64 (getE (putL l n p) n)]) ∧ Below W.heap.size W w') := fun W aa ca h hk => kget_any (putL l n p) n aa ca W hk (hm.below h)
    have CC : Hid (∀ W aa ca, Below w.heap.size w W → KpsIn W aa (putL l n p) → Calls Tryd.prog 14 #[.slice aa (putL l n p).length ca] W fun e w' => e = .returned (.int .i64 0) ∧ Below W.heap.size W w') := fun W aa ca h hk => by
      have := kcheck_any (putL l n p) aa ca W hk (hm.below h)
      rwa [hc] at this
    have CG2 : Hid (∀ W, Below w.heap.size w W → Calls Tryd.prog 6 #[.slice ao l.length co, .string o] W fun e w' => e = .returned (.tuple #[.agg #[.string (getK l o).topic, .string (getK l o).payload, .int .i64 (getK l o).ver], .int .i64 (getE l o)]) ∧ Below W.heap.size W w') := fun W h => kget_any l o ao co W (hl.below h) (hm.below h)
    have CG3 : Hid (o ≠ n → ∀ W aa ca, Below w.heap.size w W → KpsIn W aa (putL l n p) → Calls Tryd.prog 6 #[.slice aa (putL l n p).length ca, .string o] W fun e w' => e = .returned (.tuple #[.agg #[.string (getK l o).topic, .string (getK l o).payload, .int .i64 (getK l o).ver], .int .i64 (getE l o)]) ∧ Below W.heap.size W w') := fun ho W aa ca h hk => by
      have := kget_any (putL l n p) o aa ca W hk (hm.below h)
      rw [(get_other hE ho).1, (get_other hE ho).2] at this
      exact this
    clear hl hm hc hA hE
    obtain ⟨hg1, hg2⟩ := hg
    have HG1 := hide hg1
    have HG2 := hide hg2
    clear hg1 hg2
    generalize getE (putL l n p) n = GE at *
    generalize getK (putL l n p) n = GK at *
    generalize putL l n p = PL at *
    generalize getE l o = OE at *
    generalize getK l o = OK at *
    obtain ⟨gt, gp, gv⟩ := GK
    obtain ⟨ot, op, ov⟩ := OK
    simp only at CG1 CG2 CG3 HG2
    have HO := hide (txt_eq o n)
    go_enter Tryd.func4, Tryd.ntmps4
    go_wp2_with fail
    refine C0.out.mono ?_
    rintro e w1 ⟨rfl, hb1⟩
    have HB1 := hide hb1
    clear hb1 C0
    go_wp2_with fail
    refine (CP.out _ HB1.out).mono ?_
    intro e w2 h2
    obtain ⟨aa, ca, rfl, hk2, hb2⟩ := KPost.inn h2
    have HB2 := hide (below_step HB1.out hb2)
    have HK2 := hide hk2
    clear hk2 hb2 h2 HB1 CP
    go_wp2_with fail
    refine (CG1.out _ _ _ HB2.out HK2.out).mono ?_
    rintro e w3 ⟨rfl, hb3⟩
    have HB3 := hide (below_step HB2.out hb3)
    have HK3 := hide ((HK2.out.below hb3).below ((Below.refl w3.heap.size w3).alloc (Nat.le_refl _) (.cells #[.string gt, .string gp, .int .i64 gv] 27)))
    have HB3a := hide (HB3.out.alloc HB3.out.size (.cells #[.string gt, .string gp, .int .i64 gv] 27))
    have d3 := kp_cells w3 (.string gt) (.string gp) (.int .i64 gv)
    have z3 : w3.heap.size < (w3.alloc (.cells #[.string gt, .string gp, .int .i64 gv] 27)).heap.size := by simp
    clear hb3 HB3 HB2 HK2 CG1
    go_wp2_with fail
    refine (CC.out _ _ _ HB3a.out HK3.out).mono ?_
    rintro e w4 ⟨rfl, hb4⟩
    have HB4 := hide (below_step HB3a.out hb4)
    have HK4 := hide (HK3.out.below hb4)
    have d4 : ∀ i, w4.cell? ⟨w3.heap.size, i, none⟩ = (#[.string gt, .string gp, .int .i64 gv] : Array Value)[i]? := fun i => (hb4.cell (p := ⟨w3.heap.size, i, none⟩) z3).trans (d3 i)
    clear hb4 HB3a HK3 CC d3 z3
    obtain ⟨T, hT⟩ : ∃ T, (p.toList == []) = T := ⟨_, rfl⟩
    have HT := hide hT
    obtain ⟨X, hX⟩ : ∃ X, (o.toList == n.toList) = X := ⟨_, rfl⟩
    have HX := hide hX
    have HREST : Hid (X = false → o ≠ n) := fun h e => by
      have := HO.out
      rw [HX.out, h, decide_eq_true e] at this
      cases this
    cases T with
    | true =>
      have h4 : p = ⟨#[]⟩ := by
        by_cases h : p = ⟨#[]⟩
        · exact h
        · rw [txt_no (l := []) h] at hT; cases hT
      obtain rfl : GE = 5 := by rw [HG1.out, if_pos h4]
      clear h4 HG1 HG2
      cases X with
      | true =>
        clear CG2 CG3
        go_wp2
        go_ret
        exact ⟨rfl, HB4.out⟩
      | false =>
        have CG3 := hide (CG3.out (HREST.out rfl))
        go_wp2_with fail
        refine (CG2.out _ HB4.out).mono ?_
        rintro e w5 ⟨rfl, hb5⟩
        have HB5 := hide (below_step HB4.out hb5)
        have HB5a := hide (HB5.out.alloc HB5.out.size (.cells #[.string ot, .string op, .int .i64 ov] 27))
        have HK5 := hide ((HK4.out.below hb5).below ((Below.refl w5.heap.size w5).alloc (Nat.le_refl _) (.cells #[.string ot, .string op, .int .i64 ov] 27)))
        have d5 := kp_cells w5 (.string ot) (.string op) (.int .i64 ov)
        have z5 : w5.heap.size < (w5.alloc (.cells #[.string ot, .string op, .int .i64 ov] 27)).heap.size := by simp
        clear hb5 HB5 HB4 HK4 CG2 d4
        go_wp2_with fail
        refine (CG3.out _ _ _ HB5a.out HK5.out).mono ?_
        rintro e w6 ⟨rfl, hb6⟩
        have HB6 := hide (below_step HB5a.out hb6)
        have HB6a := hide (HB6.out.alloc HB6.out.size (.cells #[.string ot, .string op, .int .i64 ov] 27))
        have d6 : ∀ i, w6.cell? ⟨w5.heap.size, i, none⟩ = (#[.string ot, .string op, .int .i64 ov] : Array Value)[i]? := fun i => (hb6.cell (p := ⟨w5.heap.size, i, none⟩) z5).trans (d5 i)
        have hne : w5.heap.size ≠ w6.heap.size := by have := hb6.size; simp at this; omega
        have d7 : ∀ i, (w6.alloc (.cells #[.string ot, .string op, .int .i64 ov] 27)).cell? ⟨w5.heap.size, i, none⟩ = (#[.string ot, .string op, .int .i64 ov] : Array Value)[i]? := fun i => (World.cell?_alloc_old _ _ _ (by show w5.heap.size ≠ _; exact hne)).trans (d6 i)
        clear hb6 HB6 HB5a HK5 CG3 d5 z5
        go_wp2
        go_ret
        exact ⟨rfl, HB6a.out⟩
    | false =>
      have h4 : p ≠ ⟨#[]⟩ := fun h => by rw [txt_yes (l := []) h] at hT; cases hT
      obtain rfl : GE = 0 := by rw [HG1.out, if_neg h4]
      obtain rfl : gp = p := HG2.out h4
      have hgg : (gp.toList == gp.toList) = true := by simp
      clear h4 HG1 HG2
      cases X with
      | true =>
        clear CG2 CG3
        go_wp2
        go_ret
        exact ⟨rfl, HB4.out⟩
      | false =>
        have CG3 := hide (CG3.out (HREST.out rfl))
        go_wp2_with fail
        refine (CG2.out _ HB4.out).mono ?_
        rintro e w5 ⟨rfl, hb5⟩
        have HB5 := hide (below_step HB4.out hb5)
        have HB5a := hide (HB5.out.alloc HB5.out.size (.cells #[.string ot, .string op, .int .i64 ov] 27))
        have HK5 := hide ((HK4.out.below hb5).below ((Below.refl w5.heap.size w5).alloc (Nat.le_refl _) (.cells #[.string ot, .string op, .int .i64 ov] 27)))
        have d5 := kp_cells w5 (.string ot) (.string op) (.int .i64 ov)
        have z5 : w5.heap.size < (w5.alloc (.cells #[.string ot, .string op, .int .i64 ov] 27)).heap.size := by simp
        clear hb5 HB5 HB4 HK4 CG2 d4
        go_wp2_with fail
        refine (CG3.out _ _ _ HB5a.out HK5.out).mono ?_
        rintro e w6 ⟨rfl, hb6⟩
        have HB6 := hide (below_step HB5a.out hb6)
        have HB6a := hide (HB6.out.alloc HB6.out.size (.cells #[.string ot, .string op, .int .i64 ov] 27))
        have d6 : ∀ i, w6.cell? ⟨w5.heap.size, i, none⟩ = (#[.string ot, .string op, .int .i64 ov] : Array Value)[i]? := fun i => (hb6.cell (p := ⟨w5.heap.size, i, none⟩) z5).trans (d5 i)
        have hne : w5.heap.size ≠ w6.heap.size := by have := hb6.size; simp at this; omega
        have d7 : ∀ i, (w6.alloc (.cells #[.string ot, .string op, .int .i64 ov] 27)).cell? ⟨w5.heap.size, i, none⟩ = (#[.string ot, .string op, .int .i64 ov] : Array Value)[i]? := fun i => (World.cell?_alloc_old _ _ _ (by show w5.heap.size ≠ _; exact hne)).trans (d6 i)
        clear hb6 HB6 HB5a HK5 CG3 d5 z5
        go_wp2
        go_ret
        exact ⟨rfl, HB6a.out⟩
  · have hA : putA l n p = [] := if_neg hE
    have hE' : (putE l n p != 0) = true := by simp [hE]
    rw [hA] at CP
    clear hl hm hE hA
    generalize putE l n p = PE at *
    go_enter Tryd.func4, Tryd.ntmps4
    go_wp2_with fail
    refine C0.out.mono ?_
    rintro e w1 ⟨rfl, hb1⟩
    have HB1 := hide hb1
    clear hb1 C0
    go_wp2_with fail
    refine (CP.out _ HB1.out).mono ?_
    intro e w2 h2
    obtain ⟨aa, ca, rfl, hk2, hb2⟩ := KPost.inn h2
    have HB2 := hide (below_step HB1.out hb2)
    clear hk2 hb2 h2 HB1 CP
    go_wp2
    go_ret
    exact ⟨rfl, HB2.out⟩

theorem keepLast_lift {w : World} (l : List Kp) (ao : Option Addr) (co : Nat) (hl : KpsIn w ao l) (n p o : ByteArray) (hm : Max w) :
    Calls Tryd.prog 4 #[.slice ao l.length co, .string n, .string p, .string o] w fun e w' => e = .returned (.bool true) ∧ Below w.heap.size w w' := keepLast_walk l ao co n p o w hl hm
end Go.Proofs.YtcldjoklkbbbgadDoor
