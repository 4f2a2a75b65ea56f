/-
  packet.Encode: what it answers.
-/
import Derived.Test.YtnjdpibgfbbkcabGreatDoorWriterKinds
import Derived.Test.YtnjdpibgfbbkcabGreatDoorPacketCheck
namespace Go.Proofs.YtnjdpibgfbbkcabGreatDoor
open Go.RowKit Go.PlainAid

theorem kindB_le {k : Int} (h : kindB k = true) : 0 ≤ k ∧ k ≤ 15 := by
  simp only [kindB, decide_eq_true_eq] at h; omega

theorem cell_new (w : World) (cs : Array Value) (T : TypeId) (o : Nat) : (w.alloc (.cells cs T)).cell? ⟨w.heap.size, o, none⟩ = cs[o]? := by
  have h1 : (w.alloc (.cells cs T)).heap[w.heap.size]? = some (.cells cs T) := Go.heap_alloc_new w _
  exact Lib.cell_of_heap h1 o

set_option maxHeartbeats 4000000 in
theorem encode_any (p : Pk) (aa ac : Option Addr) (ca cc : Nat) (w : World) (hm : Max w) (hp : PkIn w p aa ac) :
    Calls Tryz.prog 14 #[pkV p aa ca ac cc] w fun e w' => e = .returned (.tuple #[.string (encS p), .int .i64 (chkP p)]) ∧ Below w.heap.size w w' := by
  have hm := hide hm
  have HPI := hide hp
  clear hp
  have C1 : Hid (∀ W, Max W → PkIn W p aa ac → Calls Tryz.prog 16 #[pkV p aa ca ac cc] W fun e w' => e = .returned (.int .i64 (chkP p)) ∧ Below W.heap.size W w') := fun W x y => check_any p aa ac ca cc W x y
  by_cases h0 : chkP p = 0
  · have hok := chkP_ok h0
    have HENC : Hid (encS p = numsS 1 [firstN p] ++ longS (bodyS p).size ++ bodyS p) := if_pos h0
    have hbz := bodyS_size hok.2.2.1 hok.2.2.2.1 hok.2.2.2.2.1
    have C2 : Hid (∀ N b W, Bd N b ⟨#[]⟩ W → w.heap.size ≤ N → N ≤ W.heap.size → N ≤ b → Below w.heap.size w W → Calls Tryz.prog 26 #[.pointer (some ⟨b, 0, none⟩), pkV p aa ca ac cc] W fun e w' => e = .returned (.tuple #[]) ∧ Bd N b (bodyS p) w' ∧ KeptN N b W w') := by
      intro N b W g1 g2 g3 g4 g5
      have hpp : PkIn W p aa ac := HPI.out.below g5
      have hs := g5.size
      refine wpacket_any N b p aa ac ca cc W g1 g3 hok.2.2.1 hok.2.2.2.1 hok.2.2.2.2.1 ?_ ?_
      · rcases HPI.out.1 with x | ⟨ib, o, x1, x2, x3⟩
        · exact .inl x
        · exact .inr ⟨ib, o, x1, ⟨by omega, .inl (by omega)⟩, by omega, fun i hi => by rw [g5.cell (p := ⟨ib, _, none⟩) x2, g5.cell (p := ⟨ib, _, none⟩) x2]; exact x3 i hi⟩
      · rcases HPI.out.2 with x | ⟨ib, o, x1, x2, x3⟩
        · exact .inl x
        · exact .inr ⟨ib, o, x1, ⟨by omega, .inl (by omega)⟩, by omega, fun i hi => by rw [g5.cell (p := ⟨ib, _, none⟩) x2]; exact x3 i hi⟩
    have C3 : Hid (∀ W, Calls Tryz.prog 30 #[pkV p aa ca ac cc] W fun e w' => e = .returned (.int .i64 (firstN p)) ∧ Below W.heap.size W w') := fun W => first_any p aa ac ca cc W (kindB_le hok.1) hok.2.2.2.2.2
    clear hok
    have H0 := hide h0
    clear h0
    have HL : Hid (longE ((bodyS p).size : Int) = 0) := if_neg (by omega)
    rw [H0.out]
    revert C1 C2 C3 HENC HL hbz
    generalize bodyS p = B
    generalize firstN p = F
    generalize encS p = EN
    intro C1 HENC hbz C2 C3 HL
    have hF1 := numsS_size 1 [F]
    have hL1 : (longS (B.size : Int)).size ≤ 4 := by
      unfold longS
      rw [if_neg (by omega), strOfNums_size]
      exact longL_length 3 _
    simp only [List.length_cons, List.length_nil] at hF1
    obtain ⟨k, d, r, c, s, q, i, kp, cd, cl, tp, pl, l, cs⟩ := p
    simp only [pkV] at *
    go_enter Tryz.func14, Tryz.ntmps14
    go_wp2_with fail
    refine (C1.out _ (hm.out.alloc _) (HPI.out.alloc _)).mono ?_
    rintro e w1 ⟨rfl, hb1⟩
    rw [H0.out]
    have HB1 := hide (below_step ((Below.refl w.heap.size w).alloc (Nat.le_refl _) _) hb1)
    have hc1 : ∀ o, w1.cell? ⟨w.heap.size, o, none⟩ = (#[.int .i64 k, .bool d, .bool r, .bool c, .bool s, .int .i64 q, .int .i64 i, .int .i64 kp, .int .i64 cd, .string cl, .string tp, .string pl, .slice aa l.length ca, .slice ac cs.length cc] : Array Value)[o]? := by
      intro o
      rw [hb1.cell (p := ⟨w.heap.size, o, none⟩) (by simp)]
      exact cell_new _ _ _ _
    have hs1 := hb1.size
    simp only [World.size_alloc] at hs1
    clear hb1
    go_upto_region 5 with fail
    have hbd0 : Bd w1.heap.size w1.heap.size ⟨#[]⟩ ((w1.alloc (.cells #[.pointer none, .slice none 0 0] 63)).alloc (.cells #[.pointer none, .slice none 0 0] 63)) := (Bd.fresh _ w1).below ((Below.refl _ _).alloc (Nat.le_refl _) _)
    have hwh0 : ((w1.alloc (.cells #[.pointer none, .slice none 0 0] 63)).alloc (.cells #[.pointer none, .slice none 0 0] 63)).heap[w1.heap.size + 1]? = some (.cells #[.pointer none, .slice none 0 0] 63) := by
      have := Go.heap_alloc_new (w1.alloc (.cells #[.pointer none, .slice none 0 0] 63)) (.cells #[.pointer none, .slice none 0 0] 63)
      simpa using this
    have hbl0 : Below w1.heap.size w1 ((w1.alloc (.cells #[.pointer none, .slice none 0 0] 63)).alloc (.cells #[.pointer none, .slice none 0 0] 63)) := ((Below.refl _ _).alloc (Nat.le_refl _) _).alloc (by simp) _
    have hsz0 : ((w1.alloc (.cells #[.pointer none, .slice none 0 0] 63)).alloc (.cells #[.pointer none, .slice none 0 0] 63)).heap.size = w1.heap.size + 2 := by simp
    revert hbd0 hwh0 hbl0 hsz0
    generalize (w1.alloc (.cells #[.pointer none, .slice none 0 0] 63)).alloc (.cells #[.pointer none, .slice none 0 0] 63) = W2
    intro hbd0 hwh0 hbl0 hsz0
    have hc2 : ∀ o, W2.cell? ⟨w.heap.size, o, none⟩ = (#[.int .i64 k, .bool d, .bool r, .bool c, .bool s, .int .i64 q, .int .i64 i, .int .i64 kp, .int .i64 cd, .string cl, .string tp, .string pl, .slice aa l.length ca, .slice ac cs.length cc] : Array Value)[o]? := fun o => by
      rw [hbl0.cell (p := ⟨w.heap.size, o, none⟩) (by show w.heap.size < _; omega)]; exact hc1 o
    have HBD0 := hide hbd0
    have HWH0 := hide hwh0
    have HBL0 := hide (below_step HB1.out hbl0)
    clear hbd0 hwh0 hbl0 hc1
    go_wp2_with fail
    refine (C2.out w1.heap.size w1.heap.size _ HBD0.out (by omega) (by omega) (Nat.le_refl _) HBL0.out).mono ?_
    rintro e w3 ⟨rfl, hbd3, hk3⟩
    have hc3 : ∀ o, w3.cell? ⟨w.heap.size, o, none⟩ = (#[.int .i64 k, .bool d, .bool r, .bool c, .bool s, .int .i64 q, .int .i64 i, .int .i64 kp, .int .i64 cd, .string cl, .string tp, .string pl, .slice aa l.length ca, .slice ac cs.length cc] : Array Value)[o]? := fun o => by
      rw [hk3.cell (p := ⟨w.heap.size, o, none⟩) (by show w.heap.size < _; omega) (by show w.heap.size ≠ _; omega)]; exact hc2 o
    have hwh3 := hk3.others _ _ HWH0.out (by omega) (fun c fz e => by simp only [Obj.cells.injEq] at e; exact absurd e.2.1 (by decide))
    have hs3 := hk3.size
    have HBD3 := hide hbd3
    have HK3 := hide hk3
    have HWH3 := hide hwh3
    clear hbd3 hk3 hwh3 hc2
    go_wp2_with (go_at_call 28; refine (len_any w1.heap.size w1.heap.size B _ HBD3.out).mono ?_; rintro e w3 ⟨rfl, rfl⟩)
    refine (long_any _ _).mono ?_
    rintro e w4 ⟨rfl, hb4⟩
    rw [HL.out]
    have hc4 : ∀ o, w4.cell? ⟨w.heap.size, o, none⟩ = (#[.int .i64 k, .bool d, .bool r, .bool c, .bool s, .int .i64 q, .int .i64 i, .int .i64 kp, .int .i64 cd, .string cl, .string tp, .string pl, .slice aa l.length ca, .slice ac cs.length cc] : Array Value)[o]? := fun o => by
      rw [hb4.cell (p := ⟨w.heap.size, o, none⟩) (by show w.heap.size < _; omega)]; exact hc3 o
    have HB4 := hide hb4
    have hs4 := hb4.size
    clear hb4 hc3
    go_wp2_with fail
    refine (C3.out _).mono ?_
    rintro e w5 ⟨rfl, hb5⟩
    have HB5 := hide hb5
    have hs5 := hb5.size
    clear hb5 hc4
    have hbw3 : Bd w3.heap.size (w1.heap.size + 1) ⟨#[]⟩ w3 := ⟨_, _, .inl rfl, HWH3.out, World.ownsRowF_nil _ _ _ _, by simp [Value.ownBlock], ⟨fun _ => rfl, fun _ => rfl⟩⟩
    have HBW5 := hide ((hbw3.below HB4.out).below HB5.out)
    have HK5 : Hid (KeptN w3.heap.size (w1.heap.size + 1) w3 w5) := KeptN.of_below (below_step HB4.out HB5.out) (Nat.le_refl _)
    clear hbw3
    go_wp2_with fail
    refine (numbers_any w3.heap.size (w1.heap.size + 1) _ 1 [F] _ 1 _ (HBW5.out.below ((Below.refl _ _).alloc (Nat.le_refl _) _)) (by simp; omega) (by decide) (by simp) (ints_one _ _ _ _ _ rfl (by omega))).mono ?_
    rintro e w6 ⟨rfl, hbd6, hk6⟩
    rw [str_nil] at hbd6
    have HBW6 := hide hbd6
    have hk36 := (HK5.out.trans (KeptN.of_below ((Below.refl _ w5).alloc (Nat.le_refl _) _) (by omega))).trans hk6
    have HK6 := hide hk36
    have hs6 := hk36.size
    clear hbd6 hk6 hk36
    go_wp2_with fail
    refine (writeString_any w3.heap.size (w1.heap.size + 1) _ (longS (B.size : Int)) _ HBW6.out (by omega) (by omega)).mono ?_
    rintro e w7 ⟨rfl, hbd7, hk7⟩
    have HBW7 := hide hbd7
    have hk37 := HK6.out.trans hk7
    have HK7 := hide hk37
    have hs7 := hk37.size
    have HBB7 := hide (HBD3.out.other (Nat.le_refl _) (show w1.heap.size + 1 ≠ w1.heap.size by omega) ⟨_, _, HWH3.out⟩ hk37)
    have HM7 : Hid (∀ p v, w7.heap[w1.heap.size]? = some (.cells #[p, v] 63 (0, 0)) → ∀ g, v.ownBlock = some g → g < w3.heap.size) := by
      intro p v hpv g hg
      obtain ⟨p', v', _, hb', ho', _⟩ := HBD3.out
      rw [hk37.block w1.heap.size (by omega) (by omega), hb'] at hpv
      simp only [Option.some.injEq, Obj.cells.injEq, Array.mk.injEq, List.cons.injEq] at hpv
      obtain ⟨⟨_, rfl, _⟩, _⟩ := hpv
      exact (ho'.lt g hg).2
    clear hbd7 hk7 hk37
    go_wp2_with (go_at_call 32; refine (string_any w1.heap.size w3.heap.size w1.heap.size B _ HBB7.out HM7.out).mono ?_; rintro e w8 ⟨rfl, hk8, hsame8⟩)
    have hwb8 := hk8.others (w1.heap.size + 1) _ HBW7.out.block.choose_spec.choose_spec (by omega) (fun c fz e => by simp only [Obj.cells.injEq] at e; exact absurd e.2.1 (by decide))
    have HBW8 := hide (HBW7.out.after (hwb8.trans HBW7.out.block.choose_spec.choose_spec.symm) hsame8)
    have HK8 := hide hk8
    have hs8 := hk8.size
    clear hk8 hsame8 hwb8
    refine (writeString_any w3.heap.size (w1.heap.size + 1) _ B _ HBW8.out (by simp only [ByteArray.size_append]; omega) (by omega)).mono ?_
    rintro e w9 ⟨rfl, hbd9, hk9⟩
    have HBW9 := hide hbd9
    have HK9 := hide hk9
    have hs9 := hk9.size
    have HM9 : Hid (∀ p v, w9.heap[w1.heap.size + 1]? = some (.cells #[p, v] 63 (0, 0)) → ∀ g, v.ownBlock = some g → g < w9.heap.size) := by
      intro p v hpv g hg
      obtain ⟨p', v', _, hb', ho', _⟩ := hbd9
      rw [hb'] at hpv
      simp only [Option.some.injEq, Obj.cells.injEq, Array.mk.injEq, List.cons.injEq] at hpv
      obtain ⟨⟨_, rfl, _⟩, _⟩ := hpv
      exact (ho'.lt g hg).2
    clear hbd9 hk9
    go_wp2_with (go_at_call 32; refine (string_any w3.heap.size w9.heap.size (w1.heap.size + 1) _ _ HBW9.out HM9.out).mono ?_; rintro e w10 ⟨rfl, hk10, hsame10⟩)
    go_ret2
    refine ⟨by rw [HENC.out]; rfl, ?_⟩
    exact (((((HBL0.out.trans (HK3.out.below (by omega) (by omega))).trans (HK7.out.below (by omega) (by omega))).trans (HK8.out.below (by omega) (by omega))).trans (HK9.out.below (by omega) (by omega))).trans (hk10.below (by omega) (by omega)))
  · have HN : Hid (encS p = ⟨#[]⟩) := if_neg h0
    have h0' : (chkP p != 0) = true := by simp [h0]
    clear h0
    revert C1 HN h0'
    generalize encS p = EN
    generalize chkP p = E
    intro C1 HN h0'
    obtain ⟨k, d, r, c, s, q, i, kp, cd, cl, tp, pl, l, cs⟩ := p
    simp only [pkV] at *
    go_enter Tryz.func14, Tryz.ntmps14
    go_wp2_with fail
    refine (C1.out _ (hm.out.alloc _) (HPI.out.alloc _)).mono ?_
    rintro e w1 ⟨rfl, hb1⟩
    go_wp2
    go_ret2
    exact ⟨by rw [HN.out]; rfl, below_step ((Below.refl _ _).alloc (Nat.le_refl _) _) hb1⟩
end Go.Proofs.YtnjdpibgfbbkcabGreatDoor
