/-
  dragomanlaw.OptionTells: true, for a name of at most 1048576 bytes.
-/
import Derived.Test.YtgmjdelgocbcaacDoorOptTellsBase
namespace Go.Proofs.YtgmjdelgocbcaacDoor
open Go.RowKit Go.PlainAid

set_option maxHeartbeats 16000000 in
set_option maxRecDepth 100000 in
theorem optionTells_any (m : Mg) (ao : Option Addr) (co : Nat) (x : ByteArray) (n a bn : Int) (bm : Bool) (bz : Int) (w : World) (hl : OptsIn w ao m.opts) (hm : Max w) (hx : x.size ≤ 1048576) :
    Calls Tryd.prog 4 #[mgV m ao co, .string x, .int .i64 n, .int .i64 a, bkV bn bm bz] w fun e w' => e = .returned (.bool true) ∧ Below w.heap.size w w' := by
  have P0 := hide (fun W (h : Below w.heap.size w W) => optionBegun_yes W (hm.below h))
  have P1 : Hid (∀ W, Below w.heap.size w W → Calls Tryd.prog 9 #[mgV m ao co] W fun e w' => e = .returned (.tuple #[.string (pathS m), .int .i64 (pathE m)]) ∧ Below W.heap.size W w') := fun W h => by
    obtain ⟨hz, mx, hc⟩ := hm.below h
    exact path_any m ao co mx W hc hz (hl.below h)
  have P2 : Hid (∀ W, Below w.heap.size w W → Calls Tryd.prog 10 #[mgV m ao co, .string x] W (NewW W (wpM m x) (wpE m x))) := fun W h => by
    obtain ⟨hz, mx, hc⟩ := hm.below h
    exact withPath_any m ao co x mx W hc hz (hl.below h)
  have P3 : Hid (∀ W, Below w.heap.size w W → Calls Tryd.prog 11 #[mgV m ao co, .int .i64 n] W fun e w' => e = .returned (.tuple #[.int .i64 (uintN m n), .int .i64 (uintE m n)]) ∧ Below W.heap.size W w') := fun W h => uint_any m ao co n W (hl.below h)
  have P4 : Hid (∀ W, Below w.heap.size w W → Calls Tryd.prog 7 #[mgV m ao co, .int .i64 n, .int .i64 a] W (NewW W (wuM m n a) (wuE m n a))) := fun W h => withUint_any m ao co n a W (hl.below h)
  have P5 : Hid (∀ W, Below w.heap.size w W → Calls Tryd.prog 12 #[mgV m ao co] W fun e w' => e = .returned (.tuple #[blockV m, .int .i64 (blockE m)]) ∧ Below W.heap.size W w') := fun W h => block_any m ao co W (hl.below h)
  have P6 : Hid (∀ W, Below w.heap.size w W → Calls Tryd.prog 13 #[mgV m ao co, bkV bn bm bz] W (NewW W (wbM m bn bm bz) (wbE m bn bm bz))) := fun W h => withBlock_any m ao co bn bm bz W (hl.below h)
  have P7 : Hid (∀ W, Below w.heap.size w W → Calls Tryd.prog 14 #[mgV m ao co] W fun e w' => e = .returned (.int .i64 (chkM m)) ∧ Below W.heap.size W w') := fun W h => rcheck_any m ao co W (hl.below h)
  have R1 : Hid (chkM m = 0 → ∀ W, Below w.heap.size w W → Calls Tryd.prog 15 #[mgV m ao co] W fun e w' => e = .returned (.tuple #[.string (pathS m), .int .i64 (pathE m)]) ∧ Below W.heap.size W w') := fun hc W h => pathOf_any m ao co W (hl.below h) hc
  have R2 : Hid (∀ W, Calls Tryd.prog 16 #[.string x, .bool false] W fun e w' => e = .returned (.int .i64 (chk nameF x)) ∧ Below W.heap.size W w') := fun W => checkTopic_any x false W hx
  have R3 : Hid (chkM m = 0 → ∀ W, Below w.heap.size w W → Calls Tryd.prog 17 #[mgV m ao co, .int .i64 n] W fun e w' => e = .returned (.tuple #[.int .i64 (uintN m n), .int .i64 (uintE m n)]) ∧ Below W.heap.size W w') := fun hc W h => by
    have := uintOf_any m ao co n W (hl.below h) hc
    rw [uintN, uintE, if_neg (by simp [hc]), if_neg (by simp [hc])]; exact this
  have R4 : Hid (chkM m = 0 → ∀ W, Below w.heap.size w W → Calls Tryd.prog 18 #[mgV m ao co] W fun e w' => e = .returned (.tuple #[blockV m, .int .i64 (blockE m)]) ∧ Below W.heap.size W w') := fun hc W h => blockOf_any m ao co W (hl.below h) hc
  obtain ⟨T2, HT2⟩ : ∃ T2 : Int, Hid ((if isB bn bz = true then (0 : Int) else 3) = T2) := ⟨_, rfl⟩
  have R5 : Hid (∀ W, Calls Tryd.prog 19 #[bkV bn bm bz] W fun e w' => e = .returned (.int .i64 T2) ∧ Below W.heap.size W w') := fun W => by
    have := blockErr_any bn bm bz W
    rw [HT2.out] at this; exact this
  have HT0 : Hid (T2 = 0 → isB bn bz = true) := fun h => by
    have := HT2.out
    rw [h] at this
    by_cases e : isB bn bz = true
    · exact e
    · rw [if_neg e] at this; simp at this
  have HT3 : Hid (T2 ≠ 0 → isB bn bz = false ∧ T2 = 3) := fun h => by
    have := HT2.out
    by_cases e : isB bn bz = true
    · rw [if_pos e] at this; exact absurd this.symm h
    · rw [if_neg e] at this; exact ⟨by simpa using e, this.symm⟩
  have RL : Hid (∀ W, Calls Tryd.prog 21 #[.string x] W fun e w' => ∃ g cap, e = .returned (.slice (some ⟨g, 0, none⟩) (LV x).length cap) ∧ StrsIn w' (some ⟨g, 0, none⟩) (LV x) ∧ Below W.heap.size W w') := fun W => (levelsOf_any x W hx).mono fun e w' ⟨g, cap, he, _, h2, h3⟩ => ⟨g, cap, he, strs_lv (fun e => lvL_ne _ (List.map_eq_nil_iff.1 e)) h2, h3⟩
  have R6 : Hid (chkM m = 0 → chk nameF x = 0 → ∀ W av cv, Below w.heap.size w W → StrsIn W av (LV x) → Calls Tryd.prog 20 #[mgV m ao co, .int .i64 11, .slice av (LV x).length cv] W (NewW W (wpM m x) (wpE m x))) := fun hc ht W av cv h hs => by
    have := withOf_any m ao co 11 (LV x) av cv W (hl.below h) hs hc (chk_sz ht).2
    rw [wpM, wpE, if_neg (by simp [hc]), if_neg (by simp [ht]), if_neg (by simp [hc]), if_neg (by simp [ht])]; exact this
  have R7 : Hid (¬ (a < 0 ∨ 16777215 < a) → ∀ W, Calls Tryd.prog 22 #[.int .i64 a] W fun e w' => e = .returned (.string (shortS a)) ∧ Below W.heap.size W w') := fun h W => shortOf_any 3 a W (by omega) (by omega) (by omega)
  have R8 : Hid (chkM m = 0 → ¬ (a < 0 ∨ 16777215 < a) → ∀ W av cv, Below w.heap.size w W → StrsIn W av [shortS a] → Calls Tryd.prog 20 #[mgV m ao co, .int .i64 n, .slice av 1 cv] W (NewW W (wuM m n a) (wuE m n a))) := fun hc ht W av cv h hs => by
    have := withOf_any m ao co n [shortS a] av cv W (hl.below h) hs hc (by simp)
    rw [wuM, wuE, if_neg (by simp [hc]), if_neg ht, if_neg (by simp [hc]), if_neg ht]; exact this
  have R9 : Hid (isB bn bz = true → ∀ W, Calls Tryd.prog 23 #[bkV bn bm bz] W fun e w' => e = .returned (.int .i64 (blkX bn bm bz)) ∧ Below W.heap.size W w') := fun h W => blockNumber_any bn bm bz W h
  have R10 : Hid (isB bn bz = true → ∀ W, Calls Tryd.prog 22 #[.int .i64 (blkX bn bm bz)] W fun e w' => e = .returned (.string (shortS (blkX bn bm bz))) ∧ Below W.heap.size W w') := fun h W => shortOf_any 3 _ W (by omega) (blk_fit bm h).1 (by have := (blk_fit bm h).2; omega)
  have R11 : Hid (chkM m = 0 → isB bn bz = true → ∀ W av cv, Below w.heap.size w W → StrsIn W av [shortS (blkX bn bm bz)] → Calls Tryd.prog 20 #[mgV m ao co, .int .i64 23, .slice av 1 cv] W (NewW W (wbM m bn bm bz) (wbE m bn bm bz))) := fun hc ht W av cv h hs => by
    have := withOf_any m ao co 23 [shortS (blkX bn bm bz)] av cv W (hl.below h) hs hc (by simp)
    have hr := blk_fit bm ht
    rw [wbM, wbE, if_neg (by simp [hc]), if_neg (by simp [ht]), if_neg (by simp [hc]), if_neg (by simp [ht]), wuM, wuE, if_neg (by simp [hc]), if_neg (by omega), if_neg (by simp [hc]), if_neg (by omega)]; exact this
  have Z0 : Hid (chkM m ≠ 0 → pathE m = chkM m ∧ pathS m = ⟨#[]⟩ ∧ uintE m n = chkM m ∧ uintN m n = 0 ∧ blockE m = chkM m ∧ blockV m = .agg #[.int .i64 0, .bool false, .int .i64 0] ∧ wpE m x = chkM m ∧ wuE m n a = chkM m ∧ wbE m bn bm bz = chkM m) := fun h => by
    have e1 : pathE m = chkM m := by rw [pathE, if_pos h]
    have e2 : uintE m n = chkM m := by rw [uintE, if_pos h]
    have e3 : blockE m = chkM m := by rw [blockE, uintE, if_pos h, if_pos h]
    exact ⟨e1, by rw [pathS, if_neg (by rw [e1]; exact h)], e2, by rw [uintN, if_pos h], e3, by rw [blockV, if_neg (by rw [e3]; exact h)]; rfl, by rw [wpE, if_pos h], by rw [wuE, if_pos h], by rw [wbE, if_pos h]⟩
  have Z1 : Hid (chkM m = 0 → chk nameF x ≠ 0 → wpE m x = chk nameF x) := fun h ht => by rw [wpE, if_neg (by simp [h]), if_pos ht]
  have Z2 : Hid (chkM m = 0 → (a < 0 ∨ 16777215 < a) → wuE m n a = 3) := fun h ht => by rw [wuE, if_neg (by simp [h]), if_pos ht]
  have Z3 : Hid (chkM m = 0 → isB bn bz = false → wbE m bn bm bz = 3) := fun h ht => by rw [wbE, if_neg (by simp [h]), if_pos ht]
  have Y1 : Hid (wpE m x ≠ 0 → _) := fun h => zero_cells (wp_no h)
  have Y2 : Hid (wuE m n a ≠ 0 → _) := fun h => zero_cells (wu_bad h)
  have Y3 : Hid (wbE m bn bm bz ≠ 0 → _) := fun h => zero_cells (wb_bad h)
  have S1 : Hid (∀ W a1 c1 a2 c2, OptsIn W a1 (wpM m x).opts → OptsIn W a2 (wpM m x).opts → Calls Tryd.prog 24 #[mgV (wpM m x) a1 c1, .int .i64 (wpE m x), .int .i64 (wpE m x), mgV (wpM m x) a2 c2] W fun e w' => e = .returned (.bool true) ∧ Below W.heap.size W w') := fun W a1 c1 a2 c2 h1 h2 => messageIs_yes _ _ a1 a2 c1 c2 _ W h1 (fun _ => ⟨rfl, h2⟩) (fun h => wp_no h) (by
    by_cases h : wpE m x = 0
    · exact Nat.le_trans (wp_bare h).2 (by decide)
    · rw [wp_no h]; decide)
  have S2 : Hid (∀ W a1 c1 a2 c2, OptsIn W a1 (wuM m n a).opts → OptsIn W a2 (wuM m n a).opts → Calls Tryd.prog 24 #[mgV (wuM m n a) a1 c1, .int .i64 (wuE m n a), .int .i64 (wuE m n a), mgV (wuM m n a) a2 c2] W fun e w' => e = .returned (.bool true) ∧ Below W.heap.size W w') := fun W a1 c1 a2 c2 h1 h2 => messageIs_yes _ _ a1 a2 c1 c2 _ W h1 (fun _ => ⟨rfl, h2⟩) (fun h => wu_bad h) (by
    by_cases h : wuE m n a = 0
    · exact Nat.le_trans (wu_bare h).2 (by decide)
    · rw [wu_bad h]; decide)
  have S3 : Hid (∀ W a1 c1 a2 c2, OptsIn W a1 (wbM m bn bm bz).opts → OptsIn W a2 (wbM m bn bm bz).opts → Calls Tryd.prog 24 #[mgV (wbM m bn bm bz) a1 c1, .int .i64 (wbE m bn bm bz), .int .i64 (wbE m bn bm bz), mgV (wbM m bn bm bz) a2 c2] W fun e w' => e = .returned (.bool true) ∧ Below W.heap.size W w') := fun W a1 c1 a2 c2 h1 h2 => messageIs_yes _ _ a1 a2 c1 c2 _ W h1 (fun _ => ⟨rfl, h2⟩) (fun h => wb_bad h) (by
    by_cases h : wbE m bn bm bz = 0
    · exact Nat.le_trans (wb_bare h).2 (by decide)
    · rw [wb_bad h]; decide)
  obtain ⟨vn, vf, vz, hbv⟩ : ∃ (vn : Int) (vf : Bool) (vz : Int), blockV m = .agg #[.int .i64 vn, .bool vf, .int .i64 vz] := by
    unfold blockV
    split
    · exact ⟨_, _, _, rfl⟩
    · exact ⟨_, _, _, rfl⟩
  rw [hbv] at P5 R4 Z0
  have Z5 : Hid (chkM m ≠ 0 → (#[.int .i64 0, .bool false, .int .i64 0] : Array Value) = #[.int .i64 vn, .bool vf, .int .i64 vz]) := fun h => by
    have := (Z0.out h).2.2.2.2.2.1
    injection this with e; exact e.symm
  clear hbv hl hm hx
  generalize pathS m = PS at *
  generalize pathE m = PE at *
  generalize uintN m n = UN at *
  generalize uintE m n = UE at *
  generalize blockE m = BE at *
  generalize wpM m x = M1 at *
  generalize wpE m x = E1 at *
  generalize wuM m n a = M2 at *
  generalize wuE m n a = E2 at *
  generalize wbM m bn bm bz = M3 at *
  generalize wbE m bn bm bz = E3 at *
  generalize chk nameF x = T1 at *
  generalize LV x = LX at *
  generalize shortS a = SA at *
  generalize shortS (blkX bn bm bz) = SB at *
  generalize blkX bn bm bz = BX at *
  generalize isB bn bz = IB at *
  generalize chkM m = V at *
  obtain ⟨k, c, i, t, l, p⟩ := m
  obtain ⟨k1, c1, i1, t1, l1, p1⟩ := M1
  obtain ⟨k2, c2, i2, t2, l2, p2⟩ := M2
  obtain ⟨k3, c3, i3, t3, l3, p3⟩ := M3
  simp only [mgV, bkV] at *
  have HB0 := hide (((Below.refl w.heap.size w).alloc (Nat.le_refl _) (.cells #[.int .i64 k, .int .i64 c, .int .i64 i, .string t, .slice ao l.length co, .string p] 24)).alloc (by simp) (.cells #[.int .i64 bn, .bool bm, .int .i64 bz] 34))
  have HX5 : Hid (((w.alloc (.cells #[.int .i64 k, .int .i64 c, .int .i64 i, .string t, .slice ao l.length co, .string p] 24)).alloc (.cells #[.int .i64 bn, .bool bm, .int .i64 bz] 34)).heap[w.heap.size]? = some (.cells #[.int .i64 k, .int .i64 c, .int .i64 i, .string t, .slice ao l.length co, .string p] 24 (0, 0))) := by
    show _ = _
    rw [Below.heap_alloc _ _ _ (by simp)]; exact Go.heap_alloc_new w _
  have HX9 : Hid (((w.alloc (.cells #[.int .i64 k, .int .i64 c, .int .i64 i, .string t, .slice ao l.length co, .string p] 24)).alloc (.cells #[.int .i64 bn, .bool bm, .int .i64 bz] 34)).heap[w.heap.size + 1]? = some (.cells #[.int .i64 bn, .bool bm, .int .i64 bz] 34 (0, 0))) := oblk1 (by simp)
  go_enter Tryd.func4, Tryd.ntmps4
  go_upto_region 1 with fail
  revert HB0 HX5 HX9
  generalize (w.alloc (.cells #[.int .i64 k, .int .i64 c, .int .i64 i, .string t, .slice ao l.length co, .string p] 24)).alloc (.cells #[.int .i64 bn, .bool bm, .int .i64 bz] 34) = W0
  intro HB0 HX5 HX9
  have q5 : ∀ o, W0.cell? ⟨w.heap.size, o, none⟩ = (#[.int .i64 k, .int .i64 c, .int .i64 i, .string t, .slice ao l.length co, .string p] : Array Value)[o]? := fun o => Lib.cell_of_heap HX5.out o
  go_wp2_with fail
  refine (P1.out _ HB0.out).mono ?_
  rintro e w1 ⟨rfl, hb1⟩
  have HB1 := hide (below_step HB0.out hb1)
  have HX5 := hide (box_step HX5.out hb1)
  have HX9 := hide (box_step HX9.out hb1)
  clear hb1 HB0 q5 P1
  have q5 : ∀ o, w1.cell? ⟨w.heap.size, o, none⟩ = (#[.int .i64 k, .int .i64 c, .int .i64 i, .string t, .slice ao l.length co, .string p] : Array Value)[o]? := fun o => Lib.cell_of_heap HX5.out o
  go_wp2_with fail
  refine (P2.out _ HB1.out).mono ?_
  rintro e w2 ⟨xa, xc, rfl, ho, _, hb⟩
  simp only [mgV]
  have HB2 := hide (below_step HB1.out hb)
  have HX5 := hide (box_step HX5.out hb)
  have HX9 := hide (box_step HX9.out hb)
  have HOX : Hid (OptsIn w2 xa l1) := ho
  clear hb ho HB1 q5 P2
  go_upto_region 3 with fail
  have hal := (Below.refl w2.heap.size w2).alloc (Nat.le_refl _) (.cells #[.int .i64 k1, .int .i64 c1, .int .i64 i1, .string t1, .slice xa l1.length xc, .string p1] 24)
  have HB3 := hide (below_step HB2.out hal)
  have HX13 : Hid ((w2.alloc (.cells #[.int .i64 k1, .int .i64 c1, .int .i64 i1, .string t1, .slice xa l1.length xc, .string p1] 24)).heap[w2.heap.size]? = some (.cells #[.int .i64 k1, .int .i64 c1, .int .i64 i1, .string t1, .slice xa l1.length xc, .string p1] 24 (0, 0))) := Go.heap_alloc_new w2 _
  have HX5 := hide (box_step HX5.out hal)
  have HX9 := hide (box_step HX9.out hal)
  have HOX := hide (HOX.out.below hal)
  clear hal HB2
  revert HB3 HX13 HX5 HX9 HOX
  generalize w2.alloc (.cells #[.int .i64 k1, .int .i64 c1, .int .i64 i1, .string t1, .slice xa l1.length xc, .string p1] 24) = W3
  generalize w2.heap.size = b13
  intro HB3 HX13 HX5 HX9 HOX
  have q5 : ∀ o, W3.cell? ⟨w.heap.size, o, none⟩ = (#[.int .i64 k, .int .i64 c, .int .i64 i, .string t, .slice ao l.length co, .string p] : Array Value)[o]? := fun o => Lib.cell_of_heap HX5.out o
  go_wp2_with fail
  refine (P3.out _ HB3.out).mono ?_
  rintro e w4 ⟨rfl, hb⟩
  have HB4 := hide (below_step HB3.out hb)
  have HX5 := hide (box_step HX5.out hb)
  have HX9 := hide (box_step HX9.out hb)
  have HX13 := hide (box_step HX13.out hb)
  have HOX := hide (HOX.out.below hb)
  clear hb HB3 q5 P3
  have q5 : ∀ o, w4.cell? ⟨w.heap.size, o, none⟩ = (#[.int .i64 k, .int .i64 c, .int .i64 i, .string t, .slice ao l.length co, .string p] : Array Value)[o]? := fun o => Lib.cell_of_heap HX5.out o
  go_wp2_with fail
  refine (P4.out _ HB4.out).mono ?_
  rintro e w5 ⟨ya, yc, rfl, ho, _, hb⟩
  simp only [mgV]
  have HB5 := hide (below_step HB4.out hb)
  have HX5 := hide (box_step HX5.out hb)
  have HX9 := hide (box_step HX9.out hb)
  have HX13 := hide (box_step HX13.out hb)
  have HOX := hide (HOX.out.below hb)
  have HOY : Hid (OptsIn w5 ya l2) := ho
  clear hb ho HB4 q5 P4
  go_upto_region 5 with fail
  have hal := (Below.refl w5.heap.size w5).alloc (Nat.le_refl _) (.cells #[.int .i64 k2, .int .i64 c2, .int .i64 i2, .string t2, .slice ya l2.length yc, .string p2] 24)
  have HB6 := hide (below_step HB5.out hal)
  have HX17 : Hid ((w5.alloc (.cells #[.int .i64 k2, .int .i64 c2, .int .i64 i2, .string t2, .slice ya l2.length yc, .string p2] 24)).heap[w5.heap.size]? = some (.cells #[.int .i64 k2, .int .i64 c2, .int .i64 i2, .string t2, .slice ya l2.length yc, .string p2] 24 (0, 0))) := Go.heap_alloc_new w5 _
  have HX5 := hide (box_step HX5.out hal)
  have HX9 := hide (box_step HX9.out hal)
  have HX13 := hide (box_step HX13.out hal)
  have HOX := hide (HOX.out.below hal)
  have HOY := hide (HOY.out.below hal)
  clear hal HB5
  revert HB6 HX17 HX5 HX9 HX13 HOX HOY
  generalize w5.alloc (.cells #[.int .i64 k2, .int .i64 c2, .int .i64 i2, .string t2, .slice ya l2.length yc, .string p2] 24) = W6
  generalize w5.heap.size = b17
  intro HB6 HX17 HX5 HX9 HX13 HOX HOY
  have q5 : ∀ o, W6.cell? ⟨w.heap.size, o, none⟩ = (#[.int .i64 k, .int .i64 c, .int .i64 i, .string t, .slice ao l.length co, .string p] : Array Value)[o]? := fun o => Lib.cell_of_heap HX5.out o
  go_wp2_with fail
  refine (P5.out _ HB6.out).mono ?_
  rintro e w7 ⟨rfl, hb⟩
  have HB7 := hide (below_step HB6.out hb)
  have HX5 := hide (box_step HX5.out hb)
  have HX9 := hide (box_step HX9.out hb)
  have HX13 := hide (box_step HX13.out hb)
  have HX17 := hide (box_step HX17.out hb)
  have HOX := hide (HOX.out.below hb)
  have HOY := hide (HOY.out.below hb)
  clear hb HB6 q5 P5
  go_upto_region 6 with fail
  have hal := (Below.refl w7.heap.size w7).alloc (Nat.le_refl _) (.cells #[.int .i64 vn, .bool vf, .int .i64 vz] 34)
  have HB8 := hide (below_step HB7.out hal)
  have HX19 : Hid ((w7.alloc (.cells #[.int .i64 vn, .bool vf, .int .i64 vz] 34)).heap[w7.heap.size]? = some (.cells #[.int .i64 vn, .bool vf, .int .i64 vz] 34 (0, 0))) := Go.heap_alloc_new w7 _
  have HX5 := hide (box_step HX5.out hal)
  have HX9 := hide (box_step HX9.out hal)
  have HX13 := hide (box_step HX13.out hal)
  have HX17 := hide (box_step HX17.out hal)
  have HOX := hide (HOX.out.below hal)
  have HOY := hide (HOY.out.below hal)
  clear hal HB7
  revert HB8 HX19 HX5 HX9 HX13 HX17 HOX HOY
  generalize w7.alloc (.cells #[.int .i64 vn, .bool vf, .int .i64 vz] 34) = W8
  generalize w7.heap.size = b19
  intro HB8 HX19 HX5 HX9 HX13 HX17 HOX HOY
  have q5 : ∀ o, W8.cell? ⟨w.heap.size, o, none⟩ = (#[.int .i64 k, .int .i64 c, .int .i64 i, .string t, .slice ao l.length co, .string p] : Array Value)[o]? := fun o => Lib.cell_of_heap HX5.out o
  have q9 : ∀ o, W8.cell? ⟨w.heap.size + 1, o, none⟩ = (#[.int .i64 bn, .bool bm, .int .i64 bz] : Array Value)[o]? := fun o => Lib.cell_of_heap HX9.out o
  go_wp2_with fail
  refine (P6.out _ HB8.out).mono ?_
  rintro e w9 ⟨za, zc, rfl, ho, _, hb⟩
  simp only [mgV]
  have HB9 := hide (below_step HB8.out hb)
  have HX5 := hide (box_step HX5.out hb)
  have HX9 := hide (box_step HX9.out hb)
  have HX13 := hide (box_step HX13.out hb)
  have HX17 := hide (box_step HX17.out hb)
  have HX19 := hide (box_step HX19.out hb)
  have HOX := hide (HOX.out.below hb)
  have HOY := hide (HOY.out.below hb)
  have HOZ : Hid (OptsIn w9 za l3) := ho
  clear hb ho HB8 q5 P6
  clear q9
  go_upto_region 7 with fail
  have hal := (Below.refl w9.heap.size w9).alloc (Nat.le_refl _) (.cells #[.int .i64 k3, .int .i64 c3, .int .i64 i3, .string t3, .slice za l3.length zc, .string p3] 24)
  have HB10 := hide (below_step HB9.out hal)
  have HX21 : Hid ((w9.alloc (.cells #[.int .i64 k3, .int .i64 c3, .int .i64 i3, .string t3, .slice za l3.length zc, .string p3] 24)).heap[w9.heap.size]? = some (.cells #[.int .i64 k3, .int .i64 c3, .int .i64 i3, .string t3, .slice za l3.length zc, .string p3] 24 (0, 0))) := Go.heap_alloc_new w9 _
  have HX5 := hide (box_step HX5.out hal)
  have HX9 := hide (box_step HX9.out hal)
  have HX13 := hide (box_step HX13.out hal)
  have HX17 := hide (box_step HX17.out hal)
  have HX19 := hide (box_step HX19.out hal)
  have HOX := hide (HOX.out.below hal)
  have HOY := hide (HOY.out.below hal)
  have HOZ := hide (HOZ.out.below hal)
  clear hal HB9
  revert HB10 HX21 HX5 HX9 HX13 HX17 HX19 HOX HOY HOZ
  generalize w9.alloc (.cells #[.int .i64 k3, .int .i64 c3, .int .i64 i3, .string t3, .slice za l3.length zc, .string p3] 24) = W10
  generalize w9.heap.size = b21
  intro HB10 HX21 HX5 HX9 HX13 HX17 HX19 HOX HOY HOZ
  have q5 : ∀ o, W10.cell? ⟨w.heap.size, o, none⟩ = (#[.int .i64 k, .int .i64 c, .int .i64 i, .string t, .slice ao l.length co, .string p] : Array Value)[o]? := fun o => Lib.cell_of_heap HX5.out o
  go_wp2_with fail
  refine (P7.out _ HB10.out).mono ?_
  rintro e w11 ⟨rfl, hb⟩
  have HB11 := hide (below_step HB10.out hb)
  have HX5 := hide (box_step HX5.out hb)
  have HX9 := hide (box_step HX9.out hb)
  have HX13 := hide (box_step HX13.out hb)
  have HX17 := hide (box_step HX17.out hb)
  have HX19 := hide (box_step HX19.out hb)
  have HX21 := hide (box_step HX21.out hb)
  have HOX := hide (HOX.out.below hb)
  have HOY := hide (HOY.out.below hb)
  have HOZ := hide (HOZ.out.below hb)
  clear hb HB10 q5 P7
  go_upto_if 80 with fail
  obtain ⟨B, hB⟩ : ∃ B, B = w11 := ⟨_, rfl⟩
  subst hB
  have HP : Hid (Ph B (.cells #[.int .i64 0, .int .i64 0, .int .i64 0, .string ⟨#[]⟩, .slice none 0 0, .string ⟨#[]⟩] 24 (0, 0)) (.cells #[.int .i64 0, .int .i64 0, .int .i64 0, .string ⟨#[]⟩, .slice none 0 0, .string ⟨#[]⟩] 24 (0, 0)) (.cells #[.int .i64 0, .int .i64 0, .int .i64 0, .string ⟨#[]⟩, .slice none 0 0, .string ⟨#[]⟩] 24 (0, 0)) (.cells #[.int .i64 0, .bool false, .int .i64 0] 34 (0, 0)) ((((B.alloc (.cells #[.int .i64 0, .int .i64 0, .int .i64 0, .string ⟨#[]⟩, .slice none 0 0, .string ⟨#[]⟩] 24)).alloc (.cells #[.int .i64 0, .int .i64 0, .int .i64 0, .string ⟨#[]⟩, .slice none 0 0, .string ⟨#[]⟩] 24)).alloc (.cells #[.int .i64 0, .int .i64 0, .int .i64 0, .string ⟨#[]⟩, .slice none 0 0, .string ⟨#[]⟩] 24)).alloc (.cells #[.int .i64 0, .bool false, .int .i64 0] 34))) := by
    refine ⟨((((Below.refl _ _).alloc (Nat.le_refl _) _).alloc (by simp) _).alloc (by simp; omega) _).alloc (by simp; omega) _, ?_, ?_, ?_, oblk1 (by simp)⟩
    · rw [Below.heap_alloc _ _ _ (by simp; omega), Below.heap_alloc _ _ _ (by simp; omega), Below.heap_alloc _ _ _ (by simp)]; exact Go.heap_alloc_new B _
    · rw [Below.heap_alloc _ _ _ (by simp), Below.heap_alloc _ _ _ (by simp)]; exact oblk1 (by simp)
    · rw [Below.heap_alloc _ _ _ (by simp)]; exact oblk1 (by simp)
  revert HP
  generalize (((B.alloc (.cells #[.int .i64 0, .int .i64 0, .int .i64 0, .string ⟨#[]⟩, .slice none 0 0, .string ⟨#[]⟩] 24)).alloc (.cells #[.int .i64 0, .int .i64 0, .int .i64 0, .string ⟨#[]⟩, .slice none 0 0, .string ⟨#[]⟩] 24)).alloc (.cells #[.int .i64 0, .int .i64 0, .int .i64 0, .string ⟨#[]⟩, .slice none 0 0, .string ⟨#[]⟩] 24)).alloc (.cells #[.int .i64 0, .bool false, .int .i64 0] 34) = W12
  intro HP
  obtain ⟨r1, HR1⟩ := two_way V T1
  obtain ⟨r2, HR2⟩ := two_way V T2
  obtain ⟨r3, HR3⟩ := three_way V (a < 0 ∨ 16777215 < a)
  go_cut [24, 25, 26, 28, 29, 30, 34] (fun q r s u ww pa cn wr => q = .int .i64 PE ∧ r = .int .i64 r1 ∧ s = .int .i64 UE ∧ u = .int .i64 BE ∧ ww = .int .i64 r2 ∧ pa = .string PS ∧ cn = .int .i64 UN ∧ Hid (Ph B (.cells #[.int .i64 0, .int .i64 0, .int .i64 0, .string ⟨#[]⟩, .slice none 0 0, .string ⟨#[]⟩] 24 (0, 0)) (.cells #[.int .i64 0, .int .i64 0, .int .i64 0, .string ⟨#[]⟩, .slice none 0 0, .string ⟨#[]⟩] 24 (0, 0)) (.cells #[.int .i64 0, .int .i64 0, .int .i64 0, .string ⟨#[]⟩, .slice none 0 0, .string ⟨#[]⟩] 24 (0, 0)) (.cells #[.int .i64 vn, .bool vf, .int .i64 vz] 34 (0, 0)) wr))
  case first =>
    as_aux_lemma =>
      by_cases hV : V = 0
      · have C1 := hide (R1.out hV)
        have C3 := hide (R3.out hV)
        have C4 := hide (R4.out hV)
        have e1 := HR1.out.1 hV
        have e2 := HR2.out.1 hV
        subst hV e1 e2
        clear R1 R3 R4 HR1 HR2 HR3 Z0 Z1 Z2 Z3 Z5 Y1 Y2 Y3 S1 S2 S3 R6 R8 R11 HT0 HT3 HT2
        have q5 := fun o => Lib.cell_of_heap (box_step HX5.out HP.out.bel) o
        go_wp2_with fail
        refine (C1.out _ (below_step HB11.out HP.out.bel)).mono ?_
        rintro e v1 ⟨rfl, hb⟩
        have HP := hide (HP.out.step hb)
        clear hb q5
        go_wp2_with fail
        refine (R2.out _).mono ?_
        rintro e v2 ⟨rfl, hb⟩
        have HP := hide (HP.out.step hb)
        clear hb
        have q5 := fun o => Lib.cell_of_heap (box_step HX5.out HP.out.bel) o
        go_wp2_with fail
        refine (C3.out _ (below_step HB11.out HP.out.bel)).mono ?_
        rintro e v3 ⟨rfl, hb⟩
        have HP := hide (HP.out.step hb)
        clear hb q5
        have q5 := fun o => Lib.cell_of_heap (box_step HX5.out HP.out.bel) o
        go_wp2_with fail
        refine (C4.out _ (below_step HB11.out HP.out.bel)).mono ?_
        rintro e v4 ⟨rfl, hb⟩
        have HP := hide (HP.out.step hb)
        clear hb q5
        have q35 := fun o => Lib.cell_of_heap HP.out.x35 o
        have f35 := fun o => Lib.frozen_of_heap HP.out.x35 o
        have HP := hide (HP.out.set35 (.int .i64 vn) (.bool vf) (.int .i64 vz))
        go_upto_region 18 with fail
        simp only [set3] at HP
        revert HP
        clear q35 f35
        generalize ((v4.setCell ⟨B.heap.size + 1 + 1 + 1, 0, none⟩ (.int .i64 vn)).setCell ⟨B.heap.size + 1 + 1 + 1, 1, none⟩ (.bool vf)).setCell ⟨B.heap.size + 1 + 1 + 1, 2, none⟩ (.int .i64 vz) = W13
        intro HP
        have q9 := fun o => Lib.cell_of_heap (box_step HX9.out HP.out.bel) o
        go_wp2_with fail
        refine (R5.out _).mono ?_
        rintro e v5 ⟨rfl, hb⟩
        have HP := hide (HP.out.step hb)
        clear hb q9
        go_wp2_with fail
        go_meet
        case rel => exact ⟨rfl, rfl, rfl, rfl, rfl, rfl, rfl, HP⟩
      · have hV' : (V == 0) = false := by simp [hV]
        obtain ⟨z1, z2, z3, z4, z5, -, -, -, -⟩ := Z0.out hV
        have e1 := HR1.out.2 hV
        have e2 := HR2.out.2 hV
        have HP := hide (HP.out.cast35 (Z5.out hV))
        have G := hide (And.intro z1 (And.intro e1 (And.intro z3 (And.intro z5 (And.intro e2 (And.intro z2 z4))))))
        clear z1 z2 z3 z4 z5 e1 e2 hV
        go_wp2_with fail
        go_meet
        case rel => exact ⟨by rw [G.out.1], by rw [G.out.2.1], by rw [G.out.2.2.1], by rw [G.out.2.2.2.1], by rw [G.out.2.2.2.2.1], by rw [G.out.2.2.2.2.2.1], by rw [G.out.2.2.2.2.2.2], HP⟩
  case rest =>
    obtain ⟨rfl, rfl, rfl, rfl, rfl, rfl, rfl, HP⟩ := hcut
    clear R1 R2 R3 R4 R5 Z5
    obtain ⟨W14, hW14⟩ : ∃ W, W = wc := ⟨_, rfl⟩
    subst hW14
    go_upto_if 102 with fail
    go_cut [25] (fun r wr => r = .int .i64 E1 ∧ Hid (∃ xb xd, Ph B (.cells #[.int .i64 k1, .int .i64 c1, .int .i64 i1, .string t1, .slice xb l1.length xd, .string p1] 24 (0, 0)) (.cells #[.int .i64 0, .int .i64 0, .int .i64 0, .string ⟨#[]⟩, .slice none 0 0, .string ⟨#[]⟩] 24 (0, 0)) (.cells #[.int .i64 0, .int .i64 0, .int .i64 0, .string ⟨#[]⟩, .slice none 0 0, .string ⟨#[]⟩] 24 (0, 0)) (.cells #[.int .i64 vn, .bool vf, .int .i64 vz] 34 (0, 0)) wr ∧ OptsF B wr xb l1))
    case first =>
      as_aux_lemma =>
        by_cases hr : r1 = 0
        · have hV : V = 0 := by
            by_cases h : V = 0
            · exact h
            · exact absurd ((HR1.out.2 h).symm.trans hr) h
          have C6 := hide (R6.out hV ((HR1.out.1 hV).symm.trans hr))
          subst hr
          clear hV HR1 HR2 HR3 R6 R7 R8 R9 R10 R11 Z0 Z1 Z2 Z3 Y1 Y2 Y3 S1 S2 S3 P0
          go_upto_region 20 with fail
          have HPw := HP
          have HP := hide HP.out.drew
          go_region_held3 (fun w' => w'.cell? ⟨w.heap.size, 0, none⟩ = some (.int .i64 k) ∧ w'.cell? ⟨w.heap.size, 1, none⟩ = some (.int .i64 c) ∧ w'.cell? ⟨w.heap.size, 2, none⟩ = some (.int .i64 i) ∧ w'.cell? ⟨w.heap.size, 3, none⟩ = some (.string t) ∧ w'.cell? ⟨w.heap.size, 4, none⟩ = some (.slice ao l.length co) ∧ w'.cell? ⟨w.heap.size, 5, none⟩ = some (.string p)) (first | with_reducible exact K5.out | with_reducible exact six_of (box_step HX5.out HP.out.bel) | with_reducible exact six_of (box_step HX5.out HPw.out.bel) | go_keep)
            (first
            | (go_at_call 21; refine (RL.out _).mono ?_; rintro e wl ⟨g, cap, rfl, hs, hb⟩; have HP := hide (HP.out.step hb); have HS := hide hs; clear hb hs)
            | (go_at_call 20; refine (C6.out _ _ _ (below_step HB11.out HP.out.bel) HS.out).mono ?_; rintro e wn ⟨yb, yd, rfl, ho, hf, hb⟩; simp only [mgV]; have HOF := hide ((OptsF.of_new ho hf HP.out.lt).set (b := B.heap.size) (by omega) (.int .i64 k1) (.int .i64 c1) (.int .i64 i1) (.string t1) (.slice yb l1.length yd) (.string p1)); have HP := hide (HP.out.step hb); have q31 := fun o => Lib.cell_of_heap HP.out.x31 o; have f31 := fun o => Lib.frozen_of_heap HP.out.x31 o; have HPn := hide (HP.out.set31 (.int .i64 k1) (.int .i64 c1) (.int .i64 i1) (.string t1) (.slice yb l1.length yd) (.string p1)); simp only [set6] at HPn HOF; have K5 := hide (six_of (box_step HX5.out HPn.out.bel)); clear hb ho hf)
            | fail)
          clear q31 f31
          go_wp2_with fail
          go_meet
          case rel => exact ⟨rfl, _, _, HPn.out, HOF.out⟩
        · have hr' : (r1 == 0) = false := by simp [hr]
          have G : Hid (E1 = r1) := by
            by_cases h : V = 0
            · have e := HR1.out.1 h
              rw [e] at hr ⊢
              exact Z1.out h hr
            · rw [HR1.out.2 h]; exact (Z0.out h).2.2.2.2.2.2.1
          obtain ⟨y1, y2⟩ := Y1.out (by rw [G.out]; exact hr)
          have HPX : Hid (∃ xb xd, Ph B (.cells #[.int .i64 k1, .int .i64 c1, .int .i64 i1, .string t1, .slice xb l1.length xd, .string p1] 24 (0, 0)) (.cells #[.int .i64 0, .int .i64 0, .int .i64 0, .string ⟨#[]⟩, .slice none 0 0, .string ⟨#[]⟩] 24 (0, 0)) (.cells #[.int .i64 0, .int .i64 0, .int .i64 0, .string ⟨#[]⟩, .slice none 0 0, .string ⟨#[]⟩] 24 (0, 0)) (.cells #[.int .i64 vn, .bool vf, .int .i64 vz] 34 (0, 0)) W14 ∧ OptsF B W14 xb l1) := ⟨none, 0, HP.out.cast31 y1, optsF_none y2⟩
          clear y1 y2 hr
          go_wp2_with fail
          go_meet
          case rel => exact ⟨by rw [G.out], HPX⟩
    case rest =>
      obtain ⟨rfl, HQ⟩ := hcut
      clear HP
      obtain ⟨W15, hW15⟩ : ∃ W, W = wc := ⟨_, rfl⟩
      subst hW15
      obtain ⟨xb, xd, hp, ho⟩ := HQ.out
      have HP := hide hp
      have HO1 := hide ho
      clear HQ hp ho R6 RL Z1 Y1 HR1
      obtain ⟨b9, Hb9⟩ : ∃ b9, Hid (b9 = (decide (V = 0) && (decide (a < 0) || decide (16777215 < a)))) := ⟨_, rfl⟩
      go_upto_region 21 with fail
      go_cut [119] (fun z wr => z = .bool b9 ∧ wr = W15)
      case first =>
        as_aux_lemma =>
          clear Z0 Z2 Z3 Y2 Y3 S1 S2 S3 R7 R8 R9 R10 R11 HR2 HR3 P0 HP HO1
          by_cases hV : V = 0
          · by_cases h1 : a < 0
            · have G : Hid (b9 = true) := by show b9 = true; rw [Hb9.out]; simp [hV, h1]
              subst hV
              go_wp2_with fail
              go_meet
              case rel => exact ⟨by rw [G.out], rfl⟩
            · by_cases h2 : 16777215 < a
              · have G : Hid (b9 = true) := by show b9 = true; rw [Hb9.out]; simp [hV, h2]
                subst hV
                go_wp2_with fail
                go_meet
                case rel => exact ⟨by rw [G.out], rfl⟩
              · have G : Hid (b9 = false) := by show b9 = false; rw [Hb9.out, decide_eq_false h1, decide_eq_false h2]; simp
                subst hV
                go_wp2_with fail
                go_meet
                case rel => exact ⟨by rw [G.out], rfl⟩
          · have hV' : (V == 0) = false := by simp [hV]
            have G : Hid (b9 = false) := by show b9 = false; rw [Hb9.out]; simp [hV]
            go_wp2_with fail
            go_meet
            case rel => exact ⟨by rw [G.out], rfl⟩
      case rest =>
        obtain ⟨rfl, hw⟩ := hcut
        subst hw
        obtain ⟨W16, hW16⟩ : ∃ W, W = wc := ⟨_, rfl⟩
        subst hW16
        go_upto_if 119 with fail
        go_cut [27] (fun z wr => z = .int .i64 r3 ∧ wr = W16)
        case first =>
          as_aux_lemma =>
            clear Z0 Z2 Z3 Y2 Y3 S1 S2 S3 R7 R8 R9 R10 R11 HR2 P0 HP HO1
            by_cases hV : V = 0
            · by_cases h1 : a < 0 ∨ 16777215 < a
              · have G : Hid (r3 = 3) := HR3.out.1 hV h1
                have e : b9 = true := by
                  rw [Hb9.out, decide_eq_true hV]
                  rcases h1 with h1 | h1
                  · rw [decide_eq_true h1]; rfl
                  · rw [decide_eq_true h1]; simp
                subst e
                clear Hb9 HR3 h1 hV
                go_wp2_with fail
                go_meet
                case rel => exact ⟨by rw [G.out], rfl⟩
              · have G : Hid (r3 = 0) := HR3.out.2.1 hV h1
                have e : b9 = false := by
                  rw [Hb9.out, decide_eq_false (fun h => h1 (.inl h)), decide_eq_false (fun h => h1 (.inr h))]; simp
                subst e hV
                clear Hb9 HR3 h1
                go_wp2_with fail
                go_meet
                case rel => exact ⟨by rw [G.out], rfl⟩
            · have G : Hid (r3 = V) := HR3.out.2.2 hV
              have e : b9 = false := by rw [Hb9.out, decide_eq_false hV]; rfl
              subst e
              clear Hb9 HR3
              go_wp2_with fail
              go_meet
              case rel => exact ⟨by rw [G.out], rfl⟩
        case rest =>
          obtain ⟨rfl, hw⟩ := hcut
          subst hw
          clear Hb9
          obtain ⟨W17, hW17⟩ : ∃ W, W = wc := ⟨_, rfl⟩
          subst hW17
          go_upto_if 121 with fail
          go_cut [27] (fun r wr => r = .int .i64 E2 ∧ Hid (∃ ya2 yd, Ph B (.cells #[.int .i64 k1, .int .i64 c1, .int .i64 i1, .string t1, .slice xb l1.length xd, .string p1] 24 (0, 0)) (.cells #[.int .i64 k2, .int .i64 c2, .int .i64 i2, .string t2, .slice ya2 l2.length yd, .string p2] 24 (0, 0)) (.cells #[.int .i64 0, .int .i64 0, .int .i64 0, .string ⟨#[]⟩, .slice none 0 0, .string ⟨#[]⟩] 24 (0, 0)) (.cells #[.int .i64 vn, .bool vf, .int .i64 vz] 34 (0, 0)) wr ∧ OptsF B wr xb l1 ∧ OptsF B wr ya2 l2))
          case first =>
            as_aux_lemma =>
              by_cases hr : r3 = 0
              · have hV : V = 0 := by
                  by_cases h : V = 0
                  · exact h
                  · exact absurd ((HR3.out.2.2 h).symm.trans hr) h
                have ha : ¬ (a < 0 ∨ 16777215 < a) := fun h => by
                  have := (HR3.out.1 hV h).symm.trans hr
                  simp at this
                have C7 := hide (R7.out ha)
                have C8 := hide (R8.out hV ha)
                subst hr
                clear hV ha HR2 HR3 R7 R8 R9 R10 R11 Z0 Z2 Z3 Y2 Y3 S1 S2 S3 P0
                go_upto_region 24 with fail
                have HPw := HP
                have HP := hide HP.out.drew
                have HO1 := hide (HO1.out.step (Below.drew (Below.refl _ _)))
                go_region_held3 (fun w' => w'.cell? ⟨w.heap.size, 0, none⟩ = some (.int .i64 k) ∧ w'.cell? ⟨w.heap.size, 1, none⟩ = some (.int .i64 c) ∧ w'.cell? ⟨w.heap.size, 2, none⟩ = some (.int .i64 i) ∧ w'.cell? ⟨w.heap.size, 3, none⟩ = some (.string t) ∧ w'.cell? ⟨w.heap.size, 4, none⟩ = some (.slice ao l.length co) ∧ w'.cell? ⟨w.heap.size, 5, none⟩ = some (.string p)) (first | with_reducible exact K5.out | with_reducible exact six_of (box_step HX5.out HP.out.bel) | with_reducible exact six_of (box_step HX5.out HPw.out.bel) | with_reducible exact six_of (box_step HX5.out HPa.out.bel) | go_keep)
                  (first
                  | (go_at_call 22; refine (C7.out _).mono ?_; rintro e wl ⟨rfl, hb⟩; have HP := hide (HP.out.step hb); have HO1 := hide (HO1.out.step hb); have HPa := hide (HP.out.alloc (.cells #[.string SA] 9)); clear hb)
                  | (go_at_call 20; refine (C8.out _ _ _ (below_step HB11.out HPa.out.bel) (strs_one _ SA)).mono ?_; rintro e wn ⟨yb, yd, rfl, ho, hf, hb⟩; simp only [mgV]; have HOF := hide ((OptsF.of_new ho hf HPa.out.lt).set (b := B.heap.size + 1) (by omega) (.int .i64 k2) (.int .i64 c2) (.int .i64 i2) (.string t2) (.slice yb l2.length yd) (.string p2)); have HO1 := hide ((((HO1.out.step ((Below.refl _ _).alloc (Nat.le_refl _) (.cells #[.string SA] 9)))).step hb).set (b := B.heap.size + 1) (by omega) (.int .i64 k2) (.int .i64 c2) (.int .i64 i2) (.string t2) (.slice yb l2.length yd) (.string p2)); have HP := hide (HPa.out.step hb); have q32 := fun o => Lib.cell_of_heap HP.out.x32 o; have f32 := fun o => Lib.frozen_of_heap HP.out.x32 o; have HPn := hide (HP.out.set32 (.int .i64 k2) (.int .i64 c2) (.int .i64 i2) (.string t2) (.slice yb l2.length yd) (.string p2)); simp only [set6] at HPn HOF HO1; have K5 := hide (six_of (box_step HX5.out HPn.out.bel)); clear hb ho hf)
                  | fail)
                clear q32 f32
                go_wp2_with fail
                go_meet
                case rel => exact ⟨rfl, _, _, HPn.out, HO1.out, HOF.out⟩
              · have hr' : (r3 == 0) = false := by simp [hr]
                have G : Hid (E2 = r3) := by
                  by_cases h : V = 0
                  · by_cases ha : a < 0 ∨ 16777215 < a
                    · rw [HR3.out.1 h ha]; exact Z2.out h ha
                    · exact absurd (HR3.out.2.1 h ha) hr
                  · rw [HR3.out.2.2 h]; exact (Z0.out h).2.2.2.2.2.2.2.1
                obtain ⟨y1, y2⟩ := Y2.out (by rw [G.out]; exact hr)
                have HPX : Hid (∃ ya2 yd, Ph B (.cells #[.int .i64 k1, .int .i64 c1, .int .i64 i1, .string t1, .slice xb l1.length xd, .string p1] 24 (0, 0)) (.cells #[.int .i64 k2, .int .i64 c2, .int .i64 i2, .string t2, .slice ya2 l2.length yd, .string p2] 24 (0, 0)) (.cells #[.int .i64 0, .int .i64 0, .int .i64 0, .string ⟨#[]⟩, .slice none 0 0, .string ⟨#[]⟩] 24 (0, 0)) (.cells #[.int .i64 vn, .bool vf, .int .i64 vz] 34 (0, 0)) W17 ∧ OptsF B W17 xb l1 ∧ OptsF B W17 ya2 l2) := ⟨none, 0, HP.out.cast32 y1, HO1.out, optsF_none y2⟩
                clear y1 y2 hr
                go_wp2_with fail
                go_meet
                case rel => exact ⟨by rw [G.out], HPX⟩
          case rest =>
            obtain ⟨rfl, HQ⟩ := hcut
            clear HP HO1
            obtain ⟨W18, hW18⟩ : ∃ W, W = wc := ⟨_, rfl⟩
            subst hW18
            obtain ⟨yb, yd, hp, ho, ho2⟩ := HQ.out
            have HP := hide hp
            have HO1 := hide ho
            have HO2 := hide ho2
            clear HQ hp ho ho2 R7 R8 Z2 Y2 HR3
            go_upto_if 132 with fail
            go_cut [29] (fun r wr => r = .int .i64 E3 ∧ Hid (∃ za2 zd, Ph B (.cells #[.int .i64 k1, .int .i64 c1, .int .i64 i1, .string t1, .slice xb l1.length xd, .string p1] 24 (0, 0)) (.cells #[.int .i64 k2, .int .i64 c2, .int .i64 i2, .string t2, .slice yb l2.length yd, .string p2] 24 (0, 0)) (.cells #[.int .i64 k3, .int .i64 c3, .int .i64 i3, .string t3, .slice za2 l3.length zd, .string p3] 24 (0, 0)) (.cells #[.int .i64 vn, .bool vf, .int .i64 vz] 34 (0, 0)) wr ∧ OptsF B wr xb l1 ∧ OptsF B wr yb l2 ∧ OptsF B wr za2 l3))
            case first =>
              as_aux_lemma =>
                by_cases hr : r2 = 0
                · have hV : V = 0 := by
                    by_cases h : V = 0
                    · exact h
                    · exact absurd ((HR2.out.2 h).symm.trans hr) h
                  have hB := HT0.out ((HR2.out.1 hV).symm.trans hr)
                  have C9 := hide (R9.out hB)
                  have C10 := hide (R10.out hB)
                  have C11 := hide (R11.out hV hB)
                  subst hr
                  clear hV hB HR2 R9 R10 R11 Z0 Z3 Y3 S1 S2 S3 P0 HT0 HT3 HT2
                  go_upto_region 26 with fail
                  have HPw := HP
                  have HP := hide HP.out.drew
                  have HO1 := hide (HO1.out.step (Below.drew (Below.refl _ _)))
                  have HO2 := hide (HO2.out.step (Below.drew (Below.refl _ _)))
                  go_region_held3 (fun w' => w'.cell? ⟨w.heap.size, 0, none⟩ = some (.int .i64 k) ∧ w'.cell? ⟨w.heap.size, 1, none⟩ = some (.int .i64 c) ∧ w'.cell? ⟨w.heap.size, 2, none⟩ = some (.int .i64 i) ∧ w'.cell? ⟨w.heap.size, 3, none⟩ = some (.string t) ∧ w'.cell? ⟨w.heap.size, 4, none⟩ = some (.slice ao l.length co) ∧ w'.cell? ⟨w.heap.size, 5, none⟩ = some (.string p) ∧ w'.cell? ⟨w.heap.size + 1, 0, none⟩ = some (.int .i64 bn) ∧ w'.cell? ⟨w.heap.size + 1, 1, none⟩ = some (.bool bm) ∧ w'.cell? ⟨w.heap.size + 1, 2, none⟩ = some (.int .i64 bz)) (first | with_reducible exact K5.out | with_reducible exact nine_of (box_step HX5.out HP.out.bel) (box_step HX9.out HP.out.bel) | with_reducible exact nine_of (box_step HX5.out HPw.out.bel) (box_step HX9.out HPw.out.bel) | with_reducible exact nine_of (box_step HX5.out HPa.out.bel) (box_step HX9.out HPa.out.bel) | go_keep)
                    (first
                    | (go_at_call 23; refine (C9.out _).mono ?_; rintro e wk ⟨rfl, hb⟩; have HP := hide (HP.out.step hb); have HO1 := hide (HO1.out.step hb); have HO2 := hide (HO2.out.step hb); clear hb)
                    | (go_at_call 22; refine (C10.out _).mono ?_; rintro e wl ⟨rfl, hb⟩; have HP := hide (HP.out.step hb); have HO1 := hide (HO1.out.step hb); have HO2 := hide (HO2.out.step hb); have HPa := hide (HP.out.alloc (.cells #[.string SB] 9)); clear hb)
                    | (go_at_call 20; refine (C11.out _ _ _ (below_step HB11.out HPa.out.bel) (strs_one _ SB)).mono ?_; rintro e wn ⟨zb, zd, rfl, ho, hf, hb⟩; simp only [mgV]; have HOF := hide ((OptsF.of_new ho hf HPa.out.lt).set (b := B.heap.size + 1 + 1) (by omega) (.int .i64 k3) (.int .i64 c3) (.int .i64 i3) (.string t3) (.slice zb l3.length zd) (.string p3)); have HO1 := hide ((((HO1.out.step ((Below.refl _ _).alloc (Nat.le_refl _) (.cells #[.string SB] 9)))).step hb).set (b := B.heap.size + 1 + 1) (by omega) (.int .i64 k3) (.int .i64 c3) (.int .i64 i3) (.string t3) (.slice zb l3.length zd) (.string p3)); have HO2 := hide ((((HO2.out.step ((Below.refl _ _).alloc (Nat.le_refl _) (.cells #[.string SB] 9)))).step hb).set (b := B.heap.size + 1 + 1) (by omega) (.int .i64 k3) (.int .i64 c3) (.int .i64 i3) (.string t3) (.slice zb l3.length zd) (.string p3)); have HP := hide (HPa.out.step hb); have q33 := fun o => Lib.cell_of_heap HP.out.x33 o; have f33 := fun o => Lib.frozen_of_heap HP.out.x33 o; have HPn := hide (HP.out.set33 (.int .i64 k3) (.int .i64 c3) (.int .i64 i3) (.string t3) (.slice zb l3.length zd) (.string p3)); simp only [set6] at HPn HOF HO1 HO2; have K5 := hide (nine_of (box_step HX5.out HPn.out.bel) (box_step HX9.out HPn.out.bel)); clear hb ho hf)
                    | fail)
                  clear q33 f33
                  go_wp2_with fail
                  go_meet
                  case rel => exact ⟨rfl, _, _, HPn.out, HO1.out, HO2.out, HOF.out⟩
                · have hr' : (r2 == 0) = false := by simp [hr]
                  have G : Hid (E3 = r2) := by
                    by_cases h : V = 0
                    · have e := HR2.out.1 h
                      obtain ⟨h1, h2⟩ := HT3.out (by rw [← e]; exact hr)
                      rw [e, h2]; exact Z3.out h h1
                    · rw [HR2.out.2 h]; exact (Z0.out h).2.2.2.2.2.2.2.2
                  obtain ⟨y1, y2⟩ := Y3.out (by rw [G.out]; exact hr)
                  have HPX : Hid (∃ za2 zd, Ph B (.cells #[.int .i64 k1, .int .i64 c1, .int .i64 i1, .string t1, .slice xb l1.length xd, .string p1] 24 (0, 0)) (.cells #[.int .i64 k2, .int .i64 c2, .int .i64 i2, .string t2, .slice yb l2.length yd, .string p2] 24 (0, 0)) (.cells #[.int .i64 k3, .int .i64 c3, .int .i64 i3, .string t3, .slice za2 l3.length zd, .string p3] 24 (0, 0)) (.cells #[.int .i64 vn, .bool vf, .int .i64 vz] 34 (0, 0)) W18 ∧ OptsF B W18 xb l1 ∧ OptsF B W18 yb l2 ∧ OptsF B W18 za2 l3) := ⟨none, 0, HP.out.cast33 y1, HO1.out, HO2.out, optsF_none y2⟩
                  clear y1 y2 hr
                  go_wp2_with fail
                  go_meet
                  case rel => exact ⟨by rw [G.out], HPX⟩
            case rest =>
              obtain ⟨rfl, HQ⟩ := hcut
              clear HP HO1 HO2
              obtain ⟨W19, hW19⟩ : ∃ W, W = wc := ⟨_, rfl⟩
              subst hW19
              obtain ⟨zb, zd, hp, ho, ho2, ho3⟩ := HQ.out
              have HP := hide hp
              have HO1 := hide ho
              have HO2 := hide ho2
              have HO3 := hide ho3
              clear HQ hp ho ho2 ho3 R9 R10 R11 Z3 Y3 HR2 HT0 HT2 HT3 Z0
              go_wp2_with fail
              refine (P0.out _ (below_step HB11.out HP.out.bel)).mono ?_
              rintro e u1 ⟨rfl, hb⟩
              have HP := hide (HP.out.step hb)
              have HO1 := hide (HO1.out.step hb)
              have HO2 := hide (HO2.out.step hb)
              have HO3 := hide (HO3.out.step hb)
              clear hb P0
              have q13 := fun o => Lib.cell_of_heap (box_step HX13.out HP.out.bel) o
              have q31 := fun o => Lib.cell_of_heap HP.out.x31 o
              go_wp2_with fail
              refine (S1.out _ _ _ _ _ (HOX.out.below HP.out.bel) HO1.out.1).mono ?_
              rintro e u2 ⟨rfl, hb⟩
              have HP := hide (HP.out.step hb)
              have HO2 := hide (HO2.out.step hb)
              have HO3 := hide (HO3.out.step hb)
              clear hb S1 q13 q31 HO1
              have q17 := fun o => Lib.cell_of_heap (box_step HX17.out HP.out.bel) o
              have q32 := fun o => Lib.cell_of_heap HP.out.x32 o
              go_wp2_with fail
              refine (S2.out _ _ _ _ _ (HOY.out.below HP.out.bel) HO2.out.1).mono ?_
              rintro e u3 ⟨rfl, hb⟩
              have HP := hide (HP.out.step hb)
              have HO3 := hide (HO3.out.step hb)
              clear hb S2 q17 q32 HO2
              have q19 := fun o => Lib.cell_of_heap (box_step HX19.out HP.out.bel) o
              have q35 := fun o => Lib.cell_of_heap HP.out.x35 o
              have q21 := fun o => Lib.cell_of_heap (box_step HX21.out HP.out.bel) o
              have q33 := fun o => Lib.cell_of_heap HP.out.x33 o
              go_wp2_with fail
              refine (S3.out _ _ _ _ _ (HOZ.out.below HP.out.bel) HO3.out.1).mono ?_
              rintro e u4 ⟨rfl, hb⟩
              have HP := hide (HP.out.step hb)
              have HBE := hide (below_step HB11.out HP.out.bel)
              clear hb S3 q19 q35 q21 q33 HO3 HP
              go_wp2_with fail
              go_ret
              exact ⟨rfl, HBE.out⟩
theorem optionTells_yes (m : Mg) (ao : Option Addr) (co : Nat) {w : World} (hl : OptsIn w ao m.opts) (x : ByteArray) (n a bn : Int) (bm : Bool) (bz : Int) (hm : Max w) (hx : x.size ≤ 1048576) :
    Calls Tryd.prog 4 #[mgV m ao co, .string x, .int .i64 n, .int .i64 a, .agg #[.int .i64 bn, .bool bm, .int .i64 bz]] w fun e w' => e = .returned (.bool true) ∧ Below w.heap.size w w' := optionTells_any m ao co x n a bn bm bz w hl hm hx
end Go.Proofs.YtgmjdelgocbcaacDoor
