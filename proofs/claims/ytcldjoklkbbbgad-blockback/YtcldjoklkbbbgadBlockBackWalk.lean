/-
  BlockBack: the walk through the law, by the contracts of what it calls.
-/
import Derived.Test.YtcldjoklkbbbgadBlkRows
namespace Go.Proofs.Ytcldjoklkbbbgad
open Go.RowKit Go.PlainAid

theorem cutB_cells (p : ByteArray) (k : Nat) (s : Int) : (#[.int .i64 (cutB p k s).num, .bool (cutB p k s).more, .int .i64 (cutB p k s).size] : Array Value) = #[.int .i64 k, .bool (decide ((k : Int) < lastB p.size s)), .int .i64 s] := rfl

set_option maxHeartbeats 4000000 in
set_option maxRecDepth 100000 in
theorem blockBack_bad (p : ByteArray) (s : Int) (w : World) (hE : cutE p 0 s ≠ 0) :
    Calls Try.prog 5 #[.string p, .int .i64 s] w fun e w' => e = .returned (.bool true) ∧ Below w.heap.size w w' := by
  have C : Hid (∀ W, Calls Try.prog 8 #[.string p, .int .i64 0, .int .i64 s] W fun e w' => e = .returned (.tuple #[.string ⟨#[]⟩, .agg #[.int .i64 0, .bool false, .int .i64 0], .int .i64 (cutE p 0 s)]) ∧ Below W.heap.size W w') := fun W => by
    have := cut_any p 0 s W
    rw [cutAS, cutAB, if_neg hE, if_neg hE] at this
    exact this
  generalize cutE p 0 s = E at *
  have hE' : (E != 0) = true := by simp [hE]
  clear hE
  go_enter Try.func5, Try.ntmps5
  go_wp2_with fail
  refine (blockBegun_yes _).mono ?_
  rintro e w1 ⟨rfl, hb1⟩
  have HB1 := hide hb1
  clear hb1
  go_wp2_with fail
  go_loopw [5, 6, 7] (fun a b c wr => a = .slice none 0 0 ∧ b = .slice none 0 0 ∧ c = .bool true ∧ Hid (Below w.heap.size w wr)) (fun _ _ _ _ => 0)
  case atStart => exact ⟨rfl, rfl, rfl, HB1.out⟩
  case round =>
    obtain ⟨rfl, rfl, rfl, HR⟩ := hrel
    go_wp2_with fail
    refine (C.out _).mono ?_
    rintro e w2 ⟨rfl, hb2⟩
    have HB2 := hide (HR.out.trans (hb2.mono HR.out.size))
    have HB3 := hide (HB2.out.alloc HB2.out.size (.cells #[.int .i64 0, .bool false, .int .i64 0] 25))
    clear hb2 HB2
    go_wp2
    go_ret
    exact ⟨rfl, HB3.out⟩

set_option maxHeartbeats 4000000 in
set_option maxRecDepth 100000 in
theorem blockBack_ok (p : ByteArray) (s : Int) (w : World) (hp2 : p.size ≤ 200) (s0 : 0 ≤ s) (s6 : s ≤ 6) :
    Calls Try.prog 5 #[.string p, .int .i64 s] w fun e w' => e = .returned (.bool true) ∧ Below w.heap.size w w' := by
  have CC : Hid (∀ (k : Nat) W, k ≤ lastB p.size s → Calls Try.prog 8 #[.string p, .int .i64 k, .int .i64 s] W fun e w' => e = .returned (.tuple #[.string (cutS p k s), .agg #[.int .i64 k, .bool (decide ((k : Int) < lastB p.size s)), .int .i64 s], .int .i64 0]) ∧ Below W.heap.size W w') := fun (k : Nat) W hk => cut_ok p k s W hp2 s0 s6 hk
  have CN : Hid (∀ (k : Nat) W, lastB p.size s < k → Calls Try.prog 8 #[.string p, .int .i64 k, .int .i64 s] W fun e w' => e = .returned (.tuple #[.string ⟨#[]⟩, .agg #[.int .i64 0, .bool false, .int .i64 0], .int .i64 5]) ∧ Below W.heap.size W w') := fun k W hk => cut_none p k s W hp2 s0 s6 (by omega) (by omega)
  have l12 := lastB_le p.size s hp2
  obtain ⟨L, hL⟩ : ∃ L, L = lastB p.size s := ⟨_, rfl⟩
  rw [← hL] at CC CN l12
  have HL := hide hL
  clear hL
  go_enter Try.func5, Try.ntmps5
  go_wp2_with fail
  refine (blockBegun_yes _).mono ?_
  rintro e w1 ⟨rfl, hb1⟩
  have HB1 := hide hb1
  clear hb1
  go_wp2_with fail
  go_loopw [5, 6, 7] (fun a b c wr => ∃ (k : Nat) (aa ab : Option Addr) (ca cb : Nat), k ≤ L + 1 ∧ a = .slice aa k ca ∧ b = .slice ab k cb ∧ c = .bool (decide (k ≤ L)) ∧ Hid (wr.ownsRow w.heap.size 9 1 (.slice aa k ca) k (strCs (cutsS p s k)) ∧ wr.ownsRow w.heap.size 25 3 (.slice ab k cb) k (bkCells (cutsB p s k)) ∧ Below w.heap.size w wr)) (fun a _ _ _ => match a with | .slice _ n _ => L + 1 - n | _ => 0)
  case atStart => exact ⟨0, none, none, 0, 0, by omega, rfl, rfl, by simp, World.ownsRow_nil _ _ _ _, World.ownsRow_nil _ _ _ _, HB1.out⟩
  case round =>
    obtain ⟨k, aa, ab, ca, cb, hk, rfl, rfl, rfl, HR⟩ := hrel
    by_cases hlt : k ≤ L
    · have h1 : decide (k ≤ L) = true := by simp [hlt]
      rw [h1]
      have C := hide (CC.out k wr hlt)
      have hMM : (cutB p k s).more = decide ((k : Int) < L) := by rw [HL.out]; rfl
      have hMN : decide ((k : Int) < L) = decide (k + 1 ≤ L) := decide_eq_decide.2 (by omega)
      revert C hMM hMN
      generalize decide ((k : Int) < L) = M
      intro C hMM hMN
      have HMM := hide hMM
      have HMN := hide hMN
      clear hMM hMN
      go_wp2_with fail
      refine C.out.mono ?_
      rintro e w2 ⟨rfl, hb2⟩
      have hs2 := hb2.size
      have HI : Hid (Inv p s w2.heap.size (.cells #[.int .i64 k, .bool M, .int .i64 s] 25 (0, 0)) w (w2.alloc (.cells #[.int .i64 k, .bool M, .int .i64 s] 25)) (.slice aa k ca) (.slice ab k cb) k k) := by
        have ra : w2.ownsRow w.heap.size 9 1 (.slice aa k ca) k (strCs (cutsS p s k)) := bown_kept HR.out.1 fun g hg => hb2.block g (bown_lt HR.out.1 hg)
        have rb : w2.ownsRow w.heap.size 25 3 (.slice ab k cb) k (bkCells (cutsB p s k)) := bown_kept HR.out.2.1 fun g hg => hb2.block g (bown_lt HR.out.2.1 hg)
        have bel := HR.out.2.2.trans (hb2.mono HR.out.2.2.size)
        exact ⟨ra.alloc _, rb.alloc _, Go.heap_alloc_new w2 _, fun e => by have := bown_lt ra e; omega, fun e => by have := bown_lt rb e; omega, bel.alloc bel.size _⟩
      have hz : w2.heap.size < (w2.alloc (.cells #[.int .i64 k, .bool M, .int .i64 s] 25)).heap.size := by simp
      clear hb2 C
      go_upto_region 10 with fail
      revert HI hz
      generalize w2.alloc (.cells #[.int .i64 k, .bool M, .int .i64 s] 25) = W
      generalize w2.heap.size = c9
      intro HI hz
      have q0 : W.cell? ⟨c9, 0, none⟩ = some (.int .i64 k) := HI.out.cell 0
      have q1 : W.cell? ⟨c9, 1, none⟩ = some (.bool M) := HI.out.cell 1
      have q2 : W.cell? ⟨c9, 2, none⟩ = some (.int .i64 s) := HI.out.cell 2
      have hk2 : k ≤ 200 := by omega
      have hne : c9 ≠ W.heap.size := by omega
      have hne2 : c9 ≠ W.heap.size + 1 := by omega
      have HK2 := hide hk2
      clear HR hs2
      obtain ⟨CS, hCS⟩ : ∃ CS, cutS p k s = CS := ⟨_, rfl⟩
      rw [hCS]
      have HCS := hide hCS
      clear hCS
      go_region_held3 (fun w' => w'.cell? ⟨c9, 0, none⟩ = some (.int .i64 k) ∧ w'.cell? ⟨c9, 1, none⟩ = some (.bool M) ∧ w'.cell? ⟨c9, 2, none⟩ = some (.int .i64 s)) (go_keep)
        (first
          | (refine stepA (p := p) (s := s) (b := c9) (blk := .cells #[.int .i64 k, .bool M, .int .i64 s] 25 (0, 0)) (w := w) (k := k) (by rfl) _ _ (by rfl) (by rfl) _ (by rfl) (by first | exact (HI.out.alloc _).drew | exact ((HI.out.alloc _).alloc _).drew | exact IB | exact IB.alloc _) CS HCS.out (by first | exact blk1 (by first | rfl | simp) | exact blk_old (blk1 (by first | rfl | simp)) | exact kB _ _ (blk1 (by first | rfl | simp)) | exact kB _ _ (blk_old (blk1 (by first | rfl | simp)))) HK2.out ?_; intro ga ca' wa IA kA; have j0 : wa.cell? ⟨c9, 0, none⟩ = some (.int .i64 k) := IA.cell 0; have j1 : wa.cell? ⟨c9, 1, none⟩ = some (.bool M) := IA.cell 1; have j2 : wa.cell? ⟨c9, 2, none⟩ = some (.int .i64 s) := IA.cell 2)
          | (refine stepB (p := p) (s := s) (b := c9) (blk := .cells #[.int .i64 k, .bool M, .int .i64 s] 25 (0, 0)) (w := w) (kb := k) (by rfl) _ _ (by rfl) (by rfl) _ (by rfl) (by first | exact (HI.out.alloc _).drew | exact ((HI.out.alloc _).alloc _).drew | exact IA | exact IA.alloc _) M HMM.out (by first | exact blk1 (by first | rfl | simp) | exact blk_old (blk1 (by first | rfl | simp)) | exact kA _ _ (blk1 (by first | rfl | simp)) | exact kA _ _ (blk_old (blk1 (by first | rfl | simp)))) HK2.out ?_; intro gb cb' wb IB kB; have i0 : wb.cell? ⟨c9, 0, none⟩ = some (.int .i64 k) := IB.cell 0; have i1 : wb.cell? ⟨c9, 1, none⟩ = some (.bool M) := IB.cell 1; have i2 : wb.cell? ⟨c9, 2, none⟩ = some (.int .i64 s) := IB.cell 2)
          | fail)
      all_goals
        first
          | have II := hide (Inv.fin k ga ca' gb cb' IB)
          | have II := hide (Inv.fin k ga ca' gb cb' IA)
        clear IA IB kA kB
        go_wp2
        go_round
        case rel => exact ⟨k + 1, _, _, _, _, by omega, rfl, rfl, by rw [HMN.out], II.out.ra, II.out.rb, II.out.bel⟩
        case measure => simp; omega
    · have h1 : decide (k ≤ L) = false := by simp; omega
      rw [h1]
      obtain rfl : k = L + 1 := by omega
      have C := hide (CN.out (L + 1) wr (by omega))
      have CJ : Hid (∀ W, Below wr.heap.size wr W → Calls Try.prog 9 #[.slice aa (L + 1) ca, .slice ab (L + 1) cb] W fun e w' => e = .returned (.tuple #[.string p, .int .i64 0]) ∧ Below W.heap.size W w') := fun W hW => by
        have h1 := (own_strs HR.out.1 (L + 1) (cutsS_len _ _ _).symm).below hW
        have h2 := (own_bks HR.out.2.1 (L + 1) (cutsB_len _ _ _).symm).below hW
        rw [List.take_of_length_le (by rw [cutsS_len]; omega)] at h1
        rw [List.take_of_length_le (by rw [cutsB_len]; omega)] at h2
        have := join_any (cutsS p s (L + 1)) (cutsB p s (L + 1)) aa ab ca cb W h1 h2 (by rw [cutsB_len]; omega) (by rw [cutsS_len]; omega) (fun x hx => by
          simp only [cutsS, List.mem_map] at hx
          obtain ⟨i, _, rfl⟩ := hx
          have := cutS_le p i s
          have := room_le s6
          omega)
        rw [cutsS_len, cutsB_len, joinS, HL.out, join_cuts hp2 s0 s6, if_pos rfl, cat_all, ← HL.out] at this
        exact this
      have CK : Hid (∀ W, Below wr.heap.size wr W → Calls Try.prog 9 #[.slice aa L ca, .slice ab L cb] W fun e w' => e = .returned (.tuple #[.string (joinS (cutsS p s L) (cutsB p s L)), .int .i64 (joinE (cutsS p s L) (cutsB p s L))]) ∧ Below W.heap.size W w') := fun W hW => by
        have h1 := (own_strs HR.out.1 L (cutsS_len _ _ _).symm).below hW
        have h2 := (own_bks HR.out.2.1 L (cutsB_len _ _ _).symm).below hW
        rw [cutsS_succ, List.take_left' (cutsS_len _ _ _)] at h1
        rw [cutsB_succ, List.take_left' (cutsB_len _ _ _)] at h2
        have := join_any (cutsS p s L) (cutsB p s L) aa ab ca cb W h1 h2 (by rw [cutsB_len]; omega) (by rw [cutsS_len]; omega) (fun x hx => by
          simp only [cutsS, List.mem_map] at hx
          obtain ⟨i, _, rfl⟩ := hx
          have := cutS_le p i s
          have := room_le s6
          omega)
        rw [cutsS_len, cutsB_len] at this
        exact this
      have hNE : (joinE (cutsS p s L) (cutsB p s L) != 0) = true := by
        have := join_less p s
        rw [← HL.out] at this
        simp [this]
      revert CK hNE
      generalize joinS (cutsS p s L) (cutsB p s L) = JS
      generalize joinE (cutsS p s L) (cutsB p s L) = JE
      intro CK hNE
      have HB := hide HR.out.2.2
      have hsr := HR.out.2.2.size
      clear CC CN
      go_wp2_with fail
      refine C.out.mono ?_
      rintro e w2 ⟨rfl, hb2⟩
      have HV := hide (hb2.alloc hb2.size (.cells #[.int .i64 0, .bool false, .int .i64 0] 25))
      clear hb2 C
      go_wp2_with fail
      refine (CJ.out _ HV.out).mono ?_
      rintro e w3 ⟨rfl, hb3⟩
      have HV3 := hide (below_step HV.out hb3)
      clear hb3 HV
      have HV4 := hide (HB.out.trans (HV3.out.mono hsr))
      obtain ⟨fa, ga, rfl⟩ := bown_form HR.out.1 (by omega)
      obtain ⟨fb, gb, rfl⟩ := bown_form HR.out.2.1 (by omega)
      have hl0 : (0 : Int) ≤ (L : Int) := by omega
      have fa' : (L : Int) ≤ (ca : Int) := by omega
      have fb' : (L : Int) ≤ (cb : Int) := by omega
      have hwr : IntKind.i64.wrap (L : Int) = (L : Int) := wrap_i64_in _ (by omega) (by omega)
      have fa2 : L ≤ ca := by omega
      have fb2 : L ≤ cb := by omega
      clear CJ HR HB HB1
      go_upto_region 16 with fail
      go_region_held3 (fun _ => True) (go_keep) (first | (go_at_call 9; refine (CK.out _ (HV3.out.drew)).mono ?_; rintro e w4 ⟨rfl, hb4⟩; have HV5 := hide (HV4.out.drew.trans (hb4.mono (Nat.le_trans hsr HV3.out.size))); clear hb4) | fail)
      all_goals
        go_wp2
        go_ret
        exact ⟨rfl, HV5.out⟩

theorem blockBack_walk (p : ByteArray) (s : Int) (w : World) :
    Calls Try.prog 5 #[.string p, .int .i64 s] w fun e w' => e = .returned (.bool true) ∧ Below w.heap.size w w' := by
  by_cases h : cutE p 0 s = 0
  · obtain ⟨h1, ⟨h2, h3⟩, _⟩ := cutE_ok h
    exact blockBack_ok p s w h1 h2 h3
  · exact blockBack_bad p s w h
theorem blockBack_lift {w : World} (p : ByteArray) (s : Int) :
    Calls Try.prog 5 #[.string p, .int .i64 s] w fun e w' => e = .returned (.bool true) ∧ Below w.heap.size w w' := blockBack_walk p s w
end Go.Proofs.Ytcldjoklkbbbgad
