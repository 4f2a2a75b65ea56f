/-
  The reference's PacketBytes: kind 3.
-/
import Derived.Test.YtnjdpibgfbbkcabGreatDoorRefPkBytes3
import Derived.Test.YtnjdpibgfbbkcabGreatDoorRefPkOfTold
namespace Go.Proofs.YtnjdpibgfbbkcabGreatDoor
open Go.RowKit Go.PlainAid

set_option maxHeartbeats 8000000 in
set_option maxRecDepth 100000 in
theorem bytes_pub0 (d r : Bool) (tp pl : ByteArray) (ht : tp.size ≤ 65535) (hp : pl.size ≤ 1048576) (T : ByteArray) (hT : txtS tp = T) (fd fr : Int) (hfd : flagN d 8 = fd) (hfr : flagN r 1 = fr) (aa ac : Option Addr) (ca cc : Nat) (w : World) :
    Calls Tryz.prog 24 #[.agg #[.int .i64 3, .bool d, .bool r, .bool false, .bool false, .int .i64 0, .int .i64 0, .int .i64 0, .int .i64 0, .string ⟨#[]⟩, .string tp, .string pl, .slice aa 0 ca, .slice ac 0 cc]] w fun e w' => e = .returned (.string (numS (48 + (fd + fr)) 1 ++ longS (T ++ pl).size ++ (T ++ pl))) ∧ Below w.heap.size w w' := by
  have hf := flagN_le d 8 (by omega)
  have hg := flagN_le r 1 (by omega)
  have CG : Hid (∀ W, Calls Tryz.prog 47 #[.bool d, .int .i64 8] W fun e w' => e = .returned (.int .i64 fd) ∧ w' = W) := fun W => by rw [← hfd]; exact flagRef_any d 8 W
  have CR : Hid (∀ W, Calls Tryz.prog 47 #[.bool r, .int .i64 1] W fun e w' => e = .returned (.int .i64 fr) ∧ w' = W) := fun W => by rw [← hfr]; exact flagRef_any r 1 W
  rw [hfd] at hf
  rw [hfr] at hg
  have CN : Hid (∀ v k W, numE v k = 0 → Calls Tryz.prog 46 #[.int .i64 v, .int .i64 k] W fun e w' => e = .returned (.string (numS v k)) ∧ Below W.heap.size W w') := fun v k W h => numberOf_any v k W h
  have CT : Hid (∀ W, Calls Tryz.prog 45 #[.string tp] W fun e w' => e = .returned (.string T) ∧ Below W.heap.size W w') := fun W => by
    rw [← hT]
    exact textOf_yes tp W (by omega)
  have u5 : T.size = 2 + tp.size := by rw [← hT]; exact txtS_le tp ht
  have u6 : T.size ≤ 65537 := by omega
  have u7 : (pl.size : Int) ≤ 8388608 := by omega
  have u8 : (T.size : Int) ≤ 65537 := by omega
  have t0 : (T ++ pl).size ≤ 1200000 := by simp only [ByteArray.size_append]; omega
  have r2 := fun W => addS 9 (T) pl W (by omega) (by omega)
  have NF : Hid (numE (48 + (fd + fr)) 1 = 0) := by show _ = _; exact numE_in (k := 1) (.inl rfl) (by omega) (by first | (simp; done) | (simp; omega))
  have CL : Hid (∀ W, Calls Tryz.prog 48 #[.int .i64 ((T ++ pl).size : Nat)] W fun e w' => e = .returned (.string (longS (T ++ pl).size)) ∧ Below W.heap.size W w') := fun W => longOfS_any (T ++ pl).size W (by omega)
  have t1 := numS_le4 (48 + (fd + fr)) 1
  have t2 := longS_le4 (T ++ pl).size
  have t3 := fun W => addS 9 (numS (48 + (fd + fr)) 1) (longS (T ++ pl).size) W (by omega) (by omega)
  have t4 := fun W => addS 9 (numS (48 + (fd + fr)) 1 ++ longS (T ++ pl).size) (T ++ pl) W (by rw [ByteArray.size_append]; omega) (by omega)
  have w1 : IntKind.i64.wrap fd = fd := by rw [IntKind.wrap_i64]; omega
  have w2 : IntKind.i64.wrap (fd + fr) = fd + fr := by rw [IntKind.wrap_i64]; omega
  have w3 : IntKind.i64.wrap (48 + (fd + fr)) = 48 + (fd + fr) := by rw [IntKind.wrap_i64]; omega
  have w4 : IntKind.i64.wrap (fd + 2) = fd + 2 := by rw [IntKind.wrap_i64]; omega
  have w5 : IntKind.i64.wrap (fd + 2 + fr) = fd + 2 + fr := by rw [IntKind.wrap_i64]; omega
  have w6 : IntKind.i64.wrap (48 + (fd + 2 + fr)) = 48 + (fd + 2 + fr) := by rw [IntKind.wrap_i64]; omega
  clear ht hp hT hfd hfr
  have HB0 : Hid (Below w.heap.size w (w.alloc (.cells #[.int .i64 3, .bool d, .bool r, .bool false, .bool false, .int .i64 0, .int .i64 0, .int .i64 0, .int .i64 0, .string ⟨#[]⟩, .string tp, .string pl, .slice aa 0 ca, .slice ac 0 cc] 35)) ∧ (w.alloc (.cells #[.int .i64 3, .bool d, .bool r, .bool false, .bool false, .int .i64 0, .int .i64 0, .int .i64 0, .int .i64 0, .string ⟨#[]⟩, .string tp, .string pl, .slice aa 0 ca, .slice ac 0 cc] 35)).heap[w.heap.size]? = some (.cells #[.int .i64 3, .bool d, .bool r, .bool false, .bool false, .int .i64 0, .int .i64 0, .int .i64 0, .int .i64 0, .string ⟨#[]⟩, .string tp, .string pl, .slice aa 0 ca, .slice ac 0 cc] 35 (0, 0))) := ⟨(Below.refl w.heap.size w).alloc (Nat.le_refl _) _, Go.heap_alloc_new w _⟩
  go_enter Tryz.func24, Tryz.ntmps24
  go_upto_region 1 with fail
  revert HB0
  generalize w.alloc (.cells #[.int .i64 3, .bool d, .bool r, .bool false, .bool false, .int .i64 0, .int .i64 0, .int .i64 0, .int .i64 0, .string ⟨#[]⟩, .string tp, .string pl, .slice aa 0 ca, .slice ac 0 cc] 35) = W0
  intro HB0
  have x1 := fun o => Lib.cell_of_heap HB0.out.2 o
  go_upto_region 9 with fail
  have Q1 := hide (fun (W : World) (q : Nat) => Calls.quiet_of_same (CG.out (W.drewN q)))
  have Q2 := hide (fun (W : World) (q : Nat) => Calls.quiet_of_same (CR.out (W.drewN q)))
  go_big_quiet (first | exact Q1.out _ _ | exact Q2.out _ _)
  generalize hW1 : World.drewN W0 _ = W1
  have HB1 : Hid (Below w.heap.size w W1 ∧ W1.heap[w.heap.size]? = some (.cells #[.int .i64 3, .bool d, .bool r, .bool false, .bool false, .int .i64 0, .int .i64 0, .int .i64 0, .int .i64 0, .string ⟨#[]⟩, .string tp, .string pl, .slice aa 0 ca, .slice ac 0 cc] 35 (0, 0))) := by rw [← hW1]; exact ⟨⟨HB0.out.1.os, HB0.out.1.tape, HB0.out.1.output, HB0.out.1.size, HB0.out.1.block⟩, HB0.out.2⟩
  clear hW1 HB0 x1 Q1 Q2 CG CR
  have x1 := fun o => Lib.cell_of_heap HB1.out.2 o
  go_wp2_with fail
  refine (CT.out _).mono ?_
  rintro e w1 ⟨rfl, hb1⟩
  have HB2 : Hid (Below w.heap.size w w1 ∧ w1.heap[w.heap.size]? = some (.cells #[.int .i64 3, .bool d, .bool r, .bool false, .bool false, .int .i64 0, .int .i64 0, .int .i64 0, .int .i64 0, .string ⟨#[]⟩, .string tp, .string pl, .slice aa 0 ca, .slice ac 0 cc] 35 (0, 0))) := ⟨below_step HB1.out.1 hb1, (hb1.block _ (Array.getElem?_eq_some_iff.1 HB1.out.2).1).trans HB1.out.2⟩
  clear hb1 HB1 x1
  have x1 := fun o => Lib.cell_of_heap HB2.out.2 o
  go_upto_region 33 with fail
  clear x1 r2 u5 u6 u7 u8
  generalize hBB : T ++ pl = BX at *
  have HBB := hide hBB
  clear hBB
  go_wp2_with fail
  refine (CN.out _ _ _ NF.out).mono ?_
  rintro e wf ⟨rfl, hbf⟩
  have HBf := hide (below_step HB2.out.1 hbf)
  clear hbf
  go_wp2_with fail
  refine (CL.out _).mono ?_
  rintro e wl ⟨rfl, hbl⟩
  have HBl := hide (below_step HBf.out hbl)
  clear hbl HBf
  go_wp2
  go_ret
  exact ⟨by rw [HBB.out]; rfl, HBl.out⟩

set_option maxHeartbeats 8000000 in
set_option maxRecDepth 100000 in
theorem bytes_pub1 (d r : Bool) (i : Int) (hi : 0 ≤ i ∧ i ≤ 65535) (tp pl : ByteArray) (ht : tp.size ≤ 65535) (hp : pl.size ≤ 1048576) (T : ByteArray) (hT : txtS tp = T) (fd fr : Int) (hfd : flagN d 8 = fd) (hfr : flagN r 1 = fr) (aa ac : Option Addr) (ca cc : Nat) (w : World) :
    Calls Tryz.prog 24 #[.agg #[.int .i64 3, .bool d, .bool r, .bool false, .bool false, .int .i64 1, .int .i64 i, .int .i64 0, .int .i64 0, .string ⟨#[]⟩, .string tp, .string pl, .slice aa 0 ca, .slice ac 0 cc]] w fun e w' => e = .returned (.string (numS (48 + (fd + 2 + fr)) 1 ++ longS (T ++ numS i 2 ++ pl).size ++ (T ++ numS i 2 ++ pl))) ∧ Below w.heap.size w w' := by
  have hf := flagN_le d 8 (by omega)
  have hg := flagN_le r 1 (by omega)
  have CG : Hid (∀ W, Calls Tryz.prog 47 #[.bool d, .int .i64 8] W fun e w' => e = .returned (.int .i64 fd) ∧ w' = W) := fun W => by rw [← hfd]; exact flagRef_any d 8 W
  have CR : Hid (∀ W, Calls Tryz.prog 47 #[.bool r, .int .i64 1] W fun e w' => e = .returned (.int .i64 fr) ∧ w' = W) := fun W => by rw [← hfr]; exact flagRef_any r 1 W
  rw [hfd] at hf
  rw [hfr] at hg
  have CN : Hid (∀ v k W, numE v k = 0 → Calls Tryz.prog 46 #[.int .i64 v, .int .i64 k] W fun e w' => e = .returned (.string (numS v k)) ∧ Below W.heap.size W w') := fun v k W h => numberOf_any v k W h
  have CT : Hid (∀ W, Calls Tryz.prog 45 #[.string tp] W fun e w' => e = .returned (.string T) ∧ Below W.heap.size W w') := fun W => by
    rw [← hT]
    exact textOf_yes tp W (by omega)
  have u5 : T.size = 2 + tp.size := by rw [← hT]; exact txtS_le tp ht
  have u6 : T.size ≤ 65537 := by omega
  have u7 : (pl.size : Int) ≤ 8388608 := by omega
  have u8 : (T.size : Int) ≤ 65537 := by omega
  have NI : Hid (numE i 2 = 0) := by show _ = _; exact numE_in (k := 2) (.inr rfl) (by omega) (by simp; omega)
  have u2 := numS_le4 i 2
  have r1 := fun W => addS 9 T (numS i 2) W (by omega) (by omega)
  have t0 : (T ++ numS i 2 ++ pl).size ≤ 1200000 := by simp only [ByteArray.size_append]; omega
  have r2 := fun W => addS 9 (T ++ numS i 2) pl W (by simp only [ByteArray.size_append]; omega) (by omega)
  have NF : Hid (numE (48 + (fd + 2 + fr)) 1 = 0) := by show _ = _; exact numE_in (k := 1) (.inl rfl) (by omega) (by first | (simp; done) | (simp; omega))
  have CL : Hid (∀ W, Calls Tryz.prog 48 #[.int .i64 ((T ++ numS i 2 ++ pl).size : Nat)] W fun e w' => e = .returned (.string (longS (T ++ numS i 2 ++ pl).size)) ∧ Below W.heap.size W w') := fun W => longOfS_any (T ++ numS i 2 ++ pl).size W (by omega)
  have t1 := numS_le4 (48 + (fd + 2 + fr)) 1
  have t2 := longS_le4 (T ++ numS i 2 ++ pl).size
  have t3 := fun W => addS 9 (numS (48 + (fd + 2 + fr)) 1) (longS (T ++ numS i 2 ++ pl).size) W (by omega) (by omega)
  have t4 := fun W => addS 9 (numS (48 + (fd + 2 + fr)) 1 ++ longS (T ++ numS i 2 ++ pl).size) (T ++ numS i 2 ++ pl) W (by rw [ByteArray.size_append]; omega) (by omega)
  have w1 : IntKind.i64.wrap fd = fd := by rw [IntKind.wrap_i64]; omega
  have w2 : IntKind.i64.wrap (fd + fr) = fd + fr := by rw [IntKind.wrap_i64]; omega
  have w3 : IntKind.i64.wrap (48 + (fd + fr)) = 48 + (fd + fr) := by rw [IntKind.wrap_i64]; omega
  have w4 : IntKind.i64.wrap (fd + 2) = fd + 2 := by rw [IntKind.wrap_i64]; omega
  have w5 : IntKind.i64.wrap (fd + 2 + fr) = fd + 2 + fr := by rw [IntKind.wrap_i64]; omega
  have w6 : IntKind.i64.wrap (48 + (fd + 2 + fr)) = 48 + (fd + 2 + fr) := by rw [IntKind.wrap_i64]; omega
  clear ht hp hT hfd hfr
  have HB0 : Hid (Below w.heap.size w (w.alloc (.cells #[.int .i64 3, .bool d, .bool r, .bool false, .bool false, .int .i64 1, .int .i64 i, .int .i64 0, .int .i64 0, .string ⟨#[]⟩, .string tp, .string pl, .slice aa 0 ca, .slice ac 0 cc] 35)) ∧ (w.alloc (.cells #[.int .i64 3, .bool d, .bool r, .bool false, .bool false, .int .i64 1, .int .i64 i, .int .i64 0, .int .i64 0, .string ⟨#[]⟩, .string tp, .string pl, .slice aa 0 ca, .slice ac 0 cc] 35)).heap[w.heap.size]? = some (.cells #[.int .i64 3, .bool d, .bool r, .bool false, .bool false, .int .i64 1, .int .i64 i, .int .i64 0, .int .i64 0, .string ⟨#[]⟩, .string tp, .string pl, .slice aa 0 ca, .slice ac 0 cc] 35 (0, 0))) := ⟨(Below.refl w.heap.size w).alloc (Nat.le_refl _) _, Go.heap_alloc_new w _⟩
  go_enter Tryz.func24, Tryz.ntmps24
  go_upto_region 1 with fail
  revert HB0
  generalize w.alloc (.cells #[.int .i64 3, .bool d, .bool r, .bool false, .bool false, .int .i64 1, .int .i64 i, .int .i64 0, .int .i64 0, .string ⟨#[]⟩, .string tp, .string pl, .slice aa 0 ca, .slice ac 0 cc] 35) = W0
  intro HB0
  have x1 := fun o => Lib.cell_of_heap HB0.out.2 o
  go_upto_region 9 with fail
  have Q1 := hide (fun (W : World) (q : Nat) => Calls.quiet_of_same (CG.out (W.drewN q)))
  have Q2 := hide (fun (W : World) (q : Nat) => Calls.quiet_of_same (CR.out (W.drewN q)))
  go_big_quiet (first | exact Q1.out _ _ | exact Q2.out _ _)
  generalize hW1 : World.drewN W0 _ = W1
  have HB1 : Hid (Below w.heap.size w W1 ∧ W1.heap[w.heap.size]? = some (.cells #[.int .i64 3, .bool d, .bool r, .bool false, .bool false, .int .i64 1, .int .i64 i, .int .i64 0, .int .i64 0, .string ⟨#[]⟩, .string tp, .string pl, .slice aa 0 ca, .slice ac 0 cc] 35 (0, 0))) := by rw [← hW1]; exact ⟨⟨HB0.out.1.os, HB0.out.1.tape, HB0.out.1.output, HB0.out.1.size, HB0.out.1.block⟩, HB0.out.2⟩
  clear hW1 HB0 x1 Q1 Q2 CG CR
  have x1 := fun o => Lib.cell_of_heap HB1.out.2 o
  go_wp2_with fail
  refine (CT.out _).mono ?_
  rintro e w1 ⟨rfl, hb1⟩
  have HB2 : Hid (Below w.heap.size w w1 ∧ w1.heap[w.heap.size]? = some (.cells #[.int .i64 3, .bool d, .bool r, .bool false, .bool false, .int .i64 1, .int .i64 i, .int .i64 0, .int .i64 0, .string ⟨#[]⟩, .string tp, .string pl, .slice aa 0 ca, .slice ac 0 cc] 35 (0, 0))) := ⟨below_step HB1.out.1 hb1, (hb1.block _ (Array.getElem?_eq_some_iff.1 HB1.out.2).1).trans HB1.out.2⟩
  clear hb1 HB1 x1
  have x1 := fun o => Lib.cell_of_heap HB2.out.2 o
  go_wp2_with fail
  refine (CN.out _ _ _ NI.out).mono ?_
  rintro e w2 ⟨rfl, hb1⟩
  have HB3 : Hid (Below w.heap.size w w2 ∧ w2.heap[w.heap.size]? = some (.cells #[.int .i64 3, .bool d, .bool r, .bool false, .bool false, .int .i64 1, .int .i64 i, .int .i64 0, .int .i64 0, .string ⟨#[]⟩, .string tp, .string pl, .slice aa 0 ca, .slice ac 0 cc] 35 (0, 0))) := ⟨below_step HB2.out.1 hb1, (hb1.block _ (Array.getElem?_eq_some_iff.1 HB2.out.2).1).trans HB2.out.2⟩
  clear hb1 HB2 x1
  have x1 := fun o => Lib.cell_of_heap HB3.out.2 o
  go_upto_region 33 with fail
  clear x1 r2 u5 u6 u7 u8
  generalize hBB : T ++ numS i 2 ++ pl = BX at *
  have HBB := hide hBB
  clear hBB
  go_wp2_with fail
  refine (CN.out _ _ _ NF.out).mono ?_
  rintro e wf ⟨rfl, hbf⟩
  have HBf := hide (below_step HB3.out.1 hbf)
  clear hbf
  go_wp2_with fail
  refine (CL.out _).mono ?_
  rintro e wl ⟨rfl, hbl⟩
  have HBl := hide (below_step HBf.out hbl)
  clear hbl HBf
  go_wp2
  go_ret
  exact ⟨by rw [HBB.out]; rfl, HBl.out⟩

end Go.Proofs.YtnjdpibgfbbkcabGreatDoor
/-
  The reference's PacketBytes: kinds 8 and 10.
-/
namespace Go.Proofs.YtnjdpibgfbbkcabGreatDoor
open Go.RowKit Go.PlainAid

theorem asks_here {w : World} {aa : Option Addr} {l : List (ByteArray × Int)} {n : Nat} (h : AsksIn w aa l) (hn : n < l.length) : ∃ b o, aa = some ⟨b, o, none⟩ ∧ b < w.heap.size ∧ w.cell? ⟨b, o + n * 2, none⟩ = some (.string l[n].1) ∧ w.cell? ⟨b, o + n * 2 + 1, none⟩ = some (.int .i64 l[n].2) := by
  rcases h with rfl | ⟨b, o, ha, hb, hc⟩
  · simp at hn
  · exact ⟨b, o, ha, hb, (hc n hn).1, (hc n hn).2⟩
theorem asks_part (k : Int) (l : List (ByteArray × Int)) (n : Nat) : (asksS k (l.take n)).size ≤ (asksS k l).size := by
  have : asksS k l = asksS k (l.take n) ++ asksS k (l.drop n) := by rw [← asksS_append, List.take_append_drop]
  rw [this, ByteArray.size_append]
  omega

set_option maxHeartbeats 8000000 in
set_option maxRecDepth 100000 in
theorem bytes_asks8 (i : Int) (hi : 0 ≤ i ∧ i ≤ 65535) (l : List (ByteArray × Int)) (hl : ∀ a ∈ l, a.1.size ≤ 65535 ∧ 0 ≤ a.2 ∧ a.2 ≤ 255) (hs : (asksS 8 l).size ≤ 1048576) (hn : l.length ≤ 1048576) (aa ac : Option Addr) (ca cc : Nat) (w : World) (hin : AsksIn w aa l) :
    Calls Tryz.prog 24 #[.agg #[.int .i64 8, .bool false, .bool false, .bool false, .bool false, .int .i64 0, .int .i64 i, .int .i64 0, .int .i64 0, .string ⟨#[]⟩, .string ⟨#[]⟩, .string ⟨#[]⟩, .slice aa l.length ca, .slice ac 0 cc]] w fun e w' => e = .returned (.string (numS 130 1 ++ longS (numS i 2 ++ asksS 8 l).size ++ (numS i 2 ++ asksS 8 l))) ∧ Below w.heap.size w w' := by
  have CN : Hid (∀ v k W, numE v k = 0 → Calls Tryz.prog 46 #[.int .i64 v, .int .i64 k] W fun e w' => e = .returned (.string (numS v k)) ∧ Below W.heap.size W w') := fun v k W h => numberOf_any v k W h
  have CT : Hid (∀ t W, t.size ≤ 65535 → Calls Tryz.prog 45 #[.string t] W fun e w' => e = .returned (.string (txtS t)) ∧ Below W.heap.size W w') := fun t W h => textOf_yes t W (by omega)
  have NI : Hid (numE i 2 = 0) := by show _ = _; exact numE_in (k := 2) (.inr rfl) (by omega) (by simp; omega)
  have u1 := numS_le4 i 2
  have t0 : (numS i 2 ++ asksS 8 l).size ≤ 1048580 := by rw [ByteArray.size_append]; omega
  have NF : Hid (numE (130) 1 = 0) := by show _ = _; exact numE_in (k := 1) (.inl rfl) (by omega) (by first | (simp; done) | (simp; omega))
  have CL : Hid (∀ W, Calls Tryz.prog 48 #[.int .i64 ((numS i 2 ++ asksS 8 l).size : Nat)] W fun e w' => e = .returned (.string (longS (numS i 2 ++ asksS 8 l).size)) ∧ Below W.heap.size W w') := fun W => longOfS_any (numS i 2 ++ asksS 8 l).size W (by omega)
  have t1 := numS_le4 (130) 1
  have t2 := longS_le4 (numS i 2 ++ asksS 8 l).size
  have t3 := fun W => addS 9 (numS (130) 1) (longS (numS i 2 ++ asksS 8 l).size) W (by omega) (by omega)
  have t4 := fun W => addS 9 (numS (130) 1 ++ longS (numS i 2 ++ asksS 8 l).size) (numS i 2 ++ asksS 8 l) W (by rw [ByteArray.size_append]; omega) (by omega)
  have HP : Hid (∀ n, (numS i 2 ++ asksS 8 (l.take n)).size ≤ 1048580) := fun n => by have := asks_part 8 l n; rw [ByteArray.size_append]; omega
  have HL := hide hin
  have HA := hide hl
  clear hl hin hs
  have HB0 : Hid (Below w.heap.size w (w.alloc (.cells #[.int .i64 8, .bool false, .bool false, .bool false, .bool false, .int .i64 0, .int .i64 i, .int .i64 0, .int .i64 0, .string ⟨#[]⟩, .string ⟨#[]⟩, .string ⟨#[]⟩, .slice aa l.length ca, .slice ac 0 cc] 35)) ∧ (w.alloc (.cells #[.int .i64 8, .bool false, .bool false, .bool false, .bool false, .int .i64 0, .int .i64 i, .int .i64 0, .int .i64 0, .string ⟨#[]⟩, .string ⟨#[]⟩, .string ⟨#[]⟩, .slice aa l.length ca, .slice ac 0 cc] 35)).heap[w.heap.size]? = some (.cells #[.int .i64 8, .bool false, .bool false, .bool false, .bool false, .int .i64 0, .int .i64 i, .int .i64 0, .int .i64 0, .string ⟨#[]⟩, .string ⟨#[]⟩, .string ⟨#[]⟩, .slice aa l.length ca, .slice ac 0 cc] 35 (0, 0))) := ⟨(Below.refl w.heap.size w).alloc (Nat.le_refl _) _, Go.heap_alloc_new w _⟩
  go_enter Tryz.func24, Tryz.ntmps24
  go_upto_region 1 with fail
  revert HB0
  generalize w.alloc (.cells #[.int .i64 8, .bool false, .bool false, .bool false, .bool false, .int .i64 0, .int .i64 i, .int .i64 0, .int .i64 0, .string ⟨#[]⟩, .string ⟨#[]⟩, .string ⟨#[]⟩, .slice aa l.length ca, .slice ac 0 cc] 35) = W0
  intro HB0
  have x1 := fun o => Lib.cell_of_heap HB0.out.2 o
  go_wp2_with fail
  refine (CN.out _ _ _ NI.out).mono ?_
  rintro e w1 ⟨rfl, hb1⟩
  have HB1 : Hid (Below w.heap.size w w1 ∧ w1.heap[w.heap.size]? = some (.cells #[.int .i64 8, .bool false, .bool false, .bool false, .bool false, .int .i64 0, .int .i64 i, .int .i64 0, .int .i64 0, .string ⟨#[]⟩, .string ⟨#[]⟩, .string ⟨#[]⟩, .slice aa l.length ca, .slice ac 0 cc] 35 (0, 0))) := ⟨below_step HB0.out.1 hb1, (hb1.block _ (Array.getElem?_eq_some_iff.1 HB0.out.2).1).trans HB0.out.2⟩
  clear hb1 HB0 x1 NI
  go_wp2
  go_loopw [4, 5] (fun q ix wr => ∃ n : Nat, n ≤ l.length ∧ ix = .int .i64 n ∧ q = .string (numS i 2 ++ asksS 8 (l.take n)) ∧ Hid (Below w.heap.size w wr ∧ wr.heap[w.heap.size]? = some (.cells #[.int .i64 8, .bool false, .bool false, .bool false, .bool false, .int .i64 0, .int .i64 i, .int .i64 0, .int .i64 0, .string ⟨#[]⟩, .string ⟨#[]⟩, .string ⟨#[]⟩, .slice aa l.length ca, .slice ac 0 cc] 35 (0, 0)))) (fun _ ix _ => l.length - (intOf ix).toNat)
  case atStart => exact ⟨0, by omega, rfl, by rw [show asksS 8 (l.take 0) = ⟨#[]⟩ from rfl, ba_append_nil], HB1.out⟩
  case round =>
    obtain ⟨n, hn', rfl, rfl, HR⟩ := hrel
    have x1 := fun o => Lib.cell_of_heap HR.out.2 o
    by_cases hlt : n < l.length
    · obtain ⟨b, o, rfl, hb, c1, c2⟩ := asks_here (HL.out.below HR.out.1) hlt
      obtain ⟨a1, a2, a3⟩ := HA.out l[n] (List.getElem_mem hlt)
      have HSN := hide (asksS_snoc 8 l n hlt)
      have HXs := HP.out n
      have HXn := HP.out (n + 1)
      have HSK : Hid (numS i 2 ++ asksS 8 (l.take (n + 1)) = numS i 2 ++ asksS 8 (l.take n) ++ askS 8 l[n]) := by show _ = _; rw [HSN.out, ba_assoc]
      have hT := txtS_len (t := l[n].1) (by omega)
      have HK : Hid (askS 8 l[n] = txtS l[n].1 ++ numS l[n].2 1) := by show _ = _; unfold askS; rw [if_pos rfl, numsS_one]
      rw [HSK.out] at HXn
      rw [HK.out] at HXn HSK
      clear HSN HK
      have HT1 := hide a1
      have hn1 : (n : Int) < l.length := by omega
      generalize hy : l[n] = y at *
      clear hy
      obtain ⟨tx, qv⟩ := y
      simp only at c1 c2 a1 a2 a3 hT HT1 HXn HSK
      generalize numS i 2 ++ asksS 8 (l.take n) = X at *
      have hX8 : (X.size : Int) ≤ 8388608 := by omega
      have hT8 : ((txtS tx).size : Int) ≤ 65537 := by omega
      have r1 := fun W => addS 9 X (txtS tx) W (by omega) (by omega)
      have NQ : Hid (numE qv 1 = 0) := by show _ = _; exact numE_in (k := 1) (.inl rfl) (by omega) (by simp; omega)
      have u9 := numS_le4 qv 1
      have hN8 : ((numS qv 1).size : Int) ≤ 4 := by omega
      have r2 := fun W => addS 9 (X ++ txtS tx) (numS qv 1) W (by rw [ByteArray.size_append]; omega) (by omega)
      clear a1 HXs HXn
      go_wp2_with fail
      refine (CT.out _ _ HT1.out).mono ?_
      rintro e w2 ⟨rfl, hb2⟩
      have HR2 : Hid (Below w.heap.size w w2 ∧ w2.heap[w.heap.size]? = some (.cells #[.int .i64 8, .bool false, .bool false, .bool false, .bool false, .int .i64 0, .int .i64 i, .int .i64 0, .int .i64 0, .string ⟨#[]⟩, .string ⟨#[]⟩, .string ⟨#[]⟩, .slice (some ⟨b, o, none⟩) l.length ca, .slice ac 0 cc] 35 (0, 0))) := ⟨below_step HR.out.1 hb2, (hb2.block _ (Array.getElem?_eq_some_iff.1 HR.out.2).1).trans HR.out.2⟩
      have d2 := (hb2.cell (p := ⟨b, o + n * 2 + 1, none⟩) hb).trans c2
      clear hb2 HR x1 c1 c2
      have x1 := fun o => Lib.cell_of_heap HR2.out.2 o
      go_wp2_with fail
      refine (CN.out _ _ _ NQ.out).mono ?_
      rintro e w3 ⟨rfl, hb3⟩
      have HR2 : Hid (Below w.heap.size w w3 ∧ w3.heap[w.heap.size]? = some (.cells #[.int .i64 8, .bool false, .bool false, .bool false, .bool false, .int .i64 0, .int .i64 i, .int .i64 0, .int .i64 0, .string ⟨#[]⟩, .string ⟨#[]⟩, .string ⟨#[]⟩, .slice (some ⟨b, o, none⟩) l.length ca, .slice ac 0 cc] 35 (0, 0))) := ⟨below_step HR2.out.1 hb3, (hb3.block _ (Array.getElem?_eq_some_iff.1 HR2.out.2).1).trans HR2.out.2⟩
      clear hb3 x1
      have x1 := fun o => Lib.cell_of_heap HR2.out.2 o
      go_wp2
      go_round
      case rel => exact ⟨n + 1, by omega, by go_num, by rw [HSK.out, ← ba_assoc], HR2.out⟩
      case measure => simp [intOf]; omega
    · have hke : l.take n = l := List.take_of_length_le (by omega)
      rw [hke]
      clear HL HA HP hke
      generalize hBB : numS i 2 ++ asksS 8 l = BX at *
      have HBB := hide hBB
      clear hBB
      go_wp2_with fail
      refine (CN.out _ _ _ NF.out).mono ?_
      rintro e wf ⟨rfl, hbf⟩
      have HBf := hide (below_step HR.out.1 hbf)
      clear hbf
      go_wp2_with fail
      refine (CL.out _).mono ?_
      rintro e wl ⟨rfl, hbl⟩
      have HBl := hide (below_step HBf.out hbl)
      clear hbl HBf
      go_wp2
      go_ret
      exact ⟨by rw [HBB.out]; rfl, HBl.out⟩

set_option maxHeartbeats 8000000 in
set_option maxRecDepth 100000 in
theorem bytes_asks10 (i : Int) (hi : 0 ≤ i ∧ i ≤ 65535) (l : List (ByteArray × Int)) (hl : ∀ a ∈ l, a.1.size ≤ 65535 ∧ 0 ≤ a.2 ∧ a.2 ≤ 255) (hs : (asksS 10 l).size ≤ 1048576) (hn : l.length ≤ 1048576) (aa ac : Option Addr) (ca cc : Nat) (w : World) (hin : AsksIn w aa l) :
    Calls Tryz.prog 24 #[.agg #[.int .i64 10, .bool false, .bool false, .bool false, .bool false, .int .i64 0, .int .i64 i, .int .i64 0, .int .i64 0, .string ⟨#[]⟩, .string ⟨#[]⟩, .string ⟨#[]⟩, .slice aa l.length ca, .slice ac 0 cc]] w fun e w' => e = .returned (.string (numS 162 1 ++ longS (numS i 2 ++ asksS 10 l).size ++ (numS i 2 ++ asksS 10 l))) ∧ Below w.heap.size w w' := by
  have CN : Hid (∀ v k W, numE v k = 0 → Calls Tryz.prog 46 #[.int .i64 v, .int .i64 k] W fun e w' => e = .returned (.string (numS v k)) ∧ Below W.heap.size W w') := fun v k W h => numberOf_any v k W h
  have CT : Hid (∀ t W, t.size ≤ 65535 → Calls Tryz.prog 45 #[.string t] W fun e w' => e = .returned (.string (txtS t)) ∧ Below W.heap.size W w') := fun t W h => textOf_yes t W (by omega)
  have NI : Hid (numE i 2 = 0) := by show _ = _; exact numE_in (k := 2) (.inr rfl) (by omega) (by simp; omega)
  have u1 := numS_le4 i 2
  have t0 : (numS i 2 ++ asksS 10 l).size ≤ 1048580 := by rw [ByteArray.size_append]; omega
  have NF : Hid (numE (162) 1 = 0) := by show _ = _; exact numE_in (k := 1) (.inl rfl) (by omega) (by first | (simp; done) | (simp; omega))
  have CL : Hid (∀ W, Calls Tryz.prog 48 #[.int .i64 ((numS i 2 ++ asksS 10 l).size : Nat)] W fun e w' => e = .returned (.string (longS (numS i 2 ++ asksS 10 l).size)) ∧ Below W.heap.size W w') := fun W => longOfS_any (numS i 2 ++ asksS 10 l).size W (by omega)
  have t1 := numS_le4 (162) 1
  have t2 := longS_le4 (numS i 2 ++ asksS 10 l).size
  have t3 := fun W => addS 9 (numS (162) 1) (longS (numS i 2 ++ asksS 10 l).size) W (by omega) (by omega)
  have t4 := fun W => addS 9 (numS (162) 1 ++ longS (numS i 2 ++ asksS 10 l).size) (numS i 2 ++ asksS 10 l) W (by rw [ByteArray.size_append]; omega) (by omega)
  have HP : Hid (∀ n, (numS i 2 ++ asksS 10 (l.take n)).size ≤ 1048580) := fun n => by have := asks_part 10 l n; rw [ByteArray.size_append]; omega
  have HL := hide hin
  have HA := hide hl
  clear hl hin hs
  have HB0 : Hid (Below w.heap.size w (w.alloc (.cells #[.int .i64 10, .bool false, .bool false, .bool false, .bool false, .int .i64 0, .int .i64 i, .int .i64 0, .int .i64 0, .string ⟨#[]⟩, .string ⟨#[]⟩, .string ⟨#[]⟩, .slice aa l.length ca, .slice ac 0 cc] 35)) ∧ (w.alloc (.cells #[.int .i64 10, .bool false, .bool false, .bool false, .bool false, .int .i64 0, .int .i64 i, .int .i64 0, .int .i64 0, .string ⟨#[]⟩, .string ⟨#[]⟩, .string ⟨#[]⟩, .slice aa l.length ca, .slice ac 0 cc] 35)).heap[w.heap.size]? = some (.cells #[.int .i64 10, .bool false, .bool false, .bool false, .bool false, .int .i64 0, .int .i64 i, .int .i64 0, .int .i64 0, .string ⟨#[]⟩, .string ⟨#[]⟩, .string ⟨#[]⟩, .slice aa l.length ca, .slice ac 0 cc] 35 (0, 0))) := ⟨(Below.refl w.heap.size w).alloc (Nat.le_refl _) _, Go.heap_alloc_new w _⟩
  go_enter Tryz.func24, Tryz.ntmps24
  go_upto_region 1 with fail
  revert HB0
  generalize w.alloc (.cells #[.int .i64 10, .bool false, .bool false, .bool false, .bool false, .int .i64 0, .int .i64 i, .int .i64 0, .int .i64 0, .string ⟨#[]⟩, .string ⟨#[]⟩, .string ⟨#[]⟩, .slice aa l.length ca, .slice ac 0 cc] 35) = W0
  intro HB0
  have x1 := fun o => Lib.cell_of_heap HB0.out.2 o
  go_wp2_with fail
  refine (CN.out _ _ _ NI.out).mono ?_
  rintro e w1 ⟨rfl, hb1⟩
  have HB1 : Hid (Below w.heap.size w w1 ∧ w1.heap[w.heap.size]? = some (.cells #[.int .i64 10, .bool false, .bool false, .bool false, .bool false, .int .i64 0, .int .i64 i, .int .i64 0, .int .i64 0, .string ⟨#[]⟩, .string ⟨#[]⟩, .string ⟨#[]⟩, .slice aa l.length ca, .slice ac 0 cc] 35 (0, 0))) := ⟨below_step HB0.out.1 hb1, (hb1.block _ (Array.getElem?_eq_some_iff.1 HB0.out.2).1).trans HB0.out.2⟩
  clear hb1 HB0 x1 NI
  go_wp2
  go_loopw [4, 5] (fun q ix wr => ∃ n : Nat, n ≤ l.length ∧ ix = .int .i64 n ∧ q = .string (numS i 2 ++ asksS 10 (l.take n)) ∧ Hid (Below w.heap.size w wr ∧ wr.heap[w.heap.size]? = some (.cells #[.int .i64 10, .bool false, .bool false, .bool false, .bool false, .int .i64 0, .int .i64 i, .int .i64 0, .int .i64 0, .string ⟨#[]⟩, .string ⟨#[]⟩, .string ⟨#[]⟩, .slice aa l.length ca, .slice ac 0 cc] 35 (0, 0)))) (fun _ ix _ => l.length - (intOf ix).toNat)
  case atStart => exact ⟨0, by omega, rfl, by rw [show asksS 10 (l.take 0) = ⟨#[]⟩ from rfl, ba_append_nil], HB1.out⟩
  case round =>
    obtain ⟨n, hn', rfl, rfl, HR⟩ := hrel
    have x1 := fun o => Lib.cell_of_heap HR.out.2 o
    by_cases hlt : n < l.length
    · obtain ⟨b, o, rfl, hb, c1, c2⟩ := asks_here (HL.out.below HR.out.1) hlt
      obtain ⟨a1, a2, a3⟩ := HA.out l[n] (List.getElem_mem hlt)
      have HSN := hide (asksS_snoc 10 l n hlt)
      have HXs := HP.out n
      have HXn := HP.out (n + 1)
      have HSK : Hid (numS i 2 ++ asksS 10 (l.take (n + 1)) = numS i 2 ++ asksS 10 (l.take n) ++ askS 10 l[n]) := by show _ = _; rw [HSN.out, ba_assoc]
      have hT := txtS_len (t := l[n].1) (by omega)
      have HK : Hid (askS 10 l[n] = txtS l[n].1) := by show _ = _; unfold askS; rw [if_neg (by decide), ba_append_nil]
      rw [HSK.out] at HXn
      rw [HK.out] at HXn HSK
      clear HSN HK
      have HT1 := hide a1
      have hn1 : (n : Int) < l.length := by omega
      generalize hy : l[n] = y at *
      clear hy
      obtain ⟨tx, qv⟩ := y
      simp only at c1 c2 a1 a2 a3 hT HT1 HXn HSK
      generalize numS i 2 ++ asksS 10 (l.take n) = X at *
      have hX8 : (X.size : Int) ≤ 8388608 := by omega
      have hT8 : ((txtS tx).size : Int) ≤ 65537 := by omega
      have r1 := fun W => addS 9 X (txtS tx) W (by omega) (by omega)
      clear a1 HXs HXn
      go_wp2_with fail
      refine (CT.out _ _ HT1.out).mono ?_
      rintro e w2 ⟨rfl, hb2⟩
      have HR2 : Hid (Below w.heap.size w w2 ∧ w2.heap[w.heap.size]? = some (.cells #[.int .i64 10, .bool false, .bool false, .bool false, .bool false, .int .i64 0, .int .i64 i, .int .i64 0, .int .i64 0, .string ⟨#[]⟩, .string ⟨#[]⟩, .string ⟨#[]⟩, .slice (some ⟨b, o, none⟩) l.length ca, .slice ac 0 cc] 35 (0, 0))) := ⟨below_step HR.out.1 hb2, (hb2.block _ (Array.getElem?_eq_some_iff.1 HR.out.2).1).trans HR.out.2⟩
      have d2 := (hb2.cell (p := ⟨b, o + n * 2 + 1, none⟩) hb).trans c2
      clear hb2 HR x1 c1 c2
      have x1 := fun o => Lib.cell_of_heap HR2.out.2 o
      go_wp2
      go_round
      case rel => exact ⟨n + 1, by omega, by go_num, by rw [HSK.out], HR2.out⟩
      case measure => simp [intOf]; omega
    · have hke : l.take n = l := List.take_of_length_le (by omega)
      rw [hke]
      clear HL HA HP hke
      generalize hBB : numS i 2 ++ asksS 10 l = BX at *
      have HBB := hide hBB
      clear hBB
      go_wp2_with fail
      refine (CN.out _ _ _ NF.out).mono ?_
      rintro e wf ⟨rfl, hbf⟩
      have HBf := hide (below_step HR.out.1 hbf)
      clear hbf
      go_wp2_with fail
      refine (CL.out _).mono ?_
      rintro e wl ⟨rfl, hbl⟩
      have HBl := hide (below_step HBf.out hbl)
      clear hbl HBf
      go_wp2
      go_ret
      exact ⟨by rw [HBB.out]; rfl, HBl.out⟩

end Go.Proofs.YtnjdpibgfbbkcabGreatDoor
/-
  The reference's PacketBytes: kind 9.
-/
namespace Go.Proofs.YtnjdpibgfbbkcabGreatDoor
open Go.RowKit Go.PlainAid

theorem ints_here {w : World} {ac : Option Addr} {l : List Int} {n : Nat} (h : IntsIn w ac l) (hn : n < l.length) : ∃ b o, ac = some ⟨b, o, none⟩ ∧ b < w.heap.size ∧ w.cell? ⟨b, o + n, none⟩ = some (.int .i64 l[n]) := by
  rcases h with rfl | ⟨b, o, ha, hb, hc⟩
  · simp at hn
  · exact ⟨b, o, ha, hb, hc n hn⟩
theorem nums_part (l : List Int) (n : Nat) : (numsS 1 (l.take n)).size ≤ (numsS 1 l).size := by
  have : numsS 1 l = numsS 1 (l.take n) ++ numsS 1 (l.drop n) := by rw [← numsS_append, List.take_append_drop]
  rw [this, ByteArray.size_append]
  omega
theorem nums_snoc (l : List Int) (n : Nat) (h : n < l.length) : numsS 1 (l.take (n + 1)) = numsS 1 (l.take n) ++ numS l[n] 1 := by
  rw [List.take_succ_eq_append_getElem h, numsS_append, numsS_one]

set_option maxHeartbeats 8000000 in
set_option maxRecDepth 100000 in
theorem bytes_codes (i : Int) (hi : 0 ≤ i ∧ i ≤ 65535) (l : List Int) (hl : ∀ a ∈ l, 0 ≤ a ∧ a ≤ 255) (hs : (numsS 1 l).size ≤ 1048576) (hn : l.length ≤ 1048576) (aa ac : Option Addr) (ca cc : Nat) (w : World) (hin : IntsIn w ac l) :
    Calls Tryz.prog 24 #[.agg #[.int .i64 9, .bool false, .bool false, .bool false, .bool false, .int .i64 0, .int .i64 i, .int .i64 0, .int .i64 0, .string ⟨#[]⟩, .string ⟨#[]⟩, .string ⟨#[]⟩, .slice aa 0 ca, .slice ac l.length cc]] w fun e w' => e = .returned (.string (numS 144 1 ++ longS (numS i 2 ++ numsS 1 l).size ++ (numS i 2 ++ numsS 1 l))) ∧ Below w.heap.size w w' := by
  have CN : Hid (∀ v k W, numE v k = 0 → Calls Tryz.prog 46 #[.int .i64 v, .int .i64 k] W fun e w' => e = .returned (.string (numS v k)) ∧ Below W.heap.size W w') := fun v k W h => numberOf_any v k W h
  have NI : Hid (numE i 2 = 0) := by show _ = _; exact numE_in (k := 2) (.inr rfl) (by omega) (by simp; omega)
  have u1 := numS_le4 i 2
  have t0 : (numS i 2 ++ numsS 1 l).size ≤ 1048580 := by rw [ByteArray.size_append]; omega
  have NF : Hid (numE (144) 1 = 0) := by show _ = _; exact numE_in (k := 1) (.inl rfl) (by omega) (by first | (simp; done) | (simp; omega))
  have CL : Hid (∀ W, Calls Tryz.prog 48 #[.int .i64 ((numS i 2 ++ numsS 1 l).size : Nat)] W fun e w' => e = .returned (.string (longS (numS i 2 ++ numsS 1 l).size)) ∧ Below W.heap.size W w') := fun W => longOfS_any (numS i 2 ++ numsS 1 l).size W (by omega)
  have t1 := numS_le4 (144) 1
  have t2 := longS_le4 (numS i 2 ++ numsS 1 l).size
  have t3 := fun W => addS 9 (numS (144) 1) (longS (numS i 2 ++ numsS 1 l).size) W (by omega) (by omega)
  have t4 := fun W => addS 9 (numS (144) 1 ++ longS (numS i 2 ++ numsS 1 l).size) (numS i 2 ++ numsS 1 l) W (by rw [ByteArray.size_append]; omega) (by omega)
  have HP : Hid (∀ n, (numS i 2 ++ numsS 1 (l.take n)).size ≤ 1048580) := fun n => by have := nums_part l n; rw [ByteArray.size_append]; omega
  have HL := hide hin
  have HA := hide hl
  clear hl hin hs
  have HB0 : Hid (Below w.heap.size w (w.alloc (.cells #[.int .i64 9, .bool false, .bool false, .bool false, .bool false, .int .i64 0, .int .i64 i, .int .i64 0, .int .i64 0, .string ⟨#[]⟩, .string ⟨#[]⟩, .string ⟨#[]⟩, .slice aa 0 ca, .slice ac l.length cc] 35)) ∧ (w.alloc (.cells #[.int .i64 9, .bool false, .bool false, .bool false, .bool false, .int .i64 0, .int .i64 i, .int .i64 0, .int .i64 0, .string ⟨#[]⟩, .string ⟨#[]⟩, .string ⟨#[]⟩, .slice aa 0 ca, .slice ac l.length cc] 35)).heap[w.heap.size]? = some (.cells #[.int .i64 9, .bool false, .bool false, .bool false, .bool false, .int .i64 0, .int .i64 i, .int .i64 0, .int .i64 0, .string ⟨#[]⟩, .string ⟨#[]⟩, .string ⟨#[]⟩, .slice aa 0 ca, .slice ac l.length cc] 35 (0, 0))) := ⟨(Below.refl w.heap.size w).alloc (Nat.le_refl _) _, Go.heap_alloc_new w _⟩
  go_enter Tryz.func24, Tryz.ntmps24
  go_upto_region 1 with fail
  revert HB0
  generalize w.alloc (.cells #[.int .i64 9, .bool false, .bool false, .bool false, .bool false, .int .i64 0, .int .i64 i, .int .i64 0, .int .i64 0, .string ⟨#[]⟩, .string ⟨#[]⟩, .string ⟨#[]⟩, .slice aa 0 ca, .slice ac l.length cc] 35) = W0
  intro HB0
  have x1 := fun o => Lib.cell_of_heap HB0.out.2 o
  go_wp2_with fail
  refine (CN.out _ _ _ NI.out).mono ?_
  rintro e w1 ⟨rfl, hb1⟩
  have HB1 : Hid (Below w.heap.size w w1 ∧ w1.heap[w.heap.size]? = some (.cells #[.int .i64 9, .bool false, .bool false, .bool false, .bool false, .int .i64 0, .int .i64 i, .int .i64 0, .int .i64 0, .string ⟨#[]⟩, .string ⟨#[]⟩, .string ⟨#[]⟩, .slice aa 0 ca, .slice ac l.length cc] 35 (0, 0))) := ⟨below_step HB0.out.1 hb1, (hb1.block _ (Array.getElem?_eq_some_iff.1 HB0.out.2).1).trans HB0.out.2⟩
  clear hb1 HB0 x1 NI
  go_wp2
  go_loopw [4, 6] (fun q ix wr => ∃ n : Nat, n ≤ l.length ∧ ix = .int .i64 n ∧ q = .string (numS i 2 ++ numsS 1 (l.take n)) ∧ Hid (Below w.heap.size w wr ∧ wr.heap[w.heap.size]? = some (.cells #[.int .i64 9, .bool false, .bool false, .bool false, .bool false, .int .i64 0, .int .i64 i, .int .i64 0, .int .i64 0, .string ⟨#[]⟩, .string ⟨#[]⟩, .string ⟨#[]⟩, .slice aa 0 ca, .slice ac l.length cc] 35 (0, 0)))) (fun _ ix _ => l.length - (intOf ix).toNat)
  case atStart => exact ⟨0, by omega, rfl, by rw [show numsS 1 (l.take 0) = ⟨#[]⟩ from rfl, ba_append_nil], HB1.out⟩
  case round =>
    obtain ⟨n, hn', rfl, rfl, HR⟩ := hrel
    have x1 := fun o => Lib.cell_of_heap HR.out.2 o
    by_cases hlt : n < l.length
    · obtain ⟨b, o, rfl, hb, c1⟩ := ints_here (HL.out.below HR.out.1) hlt
      obtain ⟨a2, a3⟩ := HA.out l[n] (List.getElem_mem hlt)
      have HSN := hide (nums_snoc l n hlt)
      have HXs := HP.out n
      have HSK : Hid (numS i 2 ++ numsS 1 (l.take (n + 1)) = numS i 2 ++ numsS 1 (l.take n) ++ numS l[n] 1) := by show _ = _; rw [HSN.out, ba_assoc]
      clear HSN
      have hn1 : (n : Int) < l.length := by omega
      generalize l[n] = qv at *
      generalize numS i 2 ++ numsS 1 (l.take n) = X at *
      have hX8 : (X.size : Int) ≤ 8388608 := by omega
      have NQ : Hid (numE qv 1 = 0) := by show _ = _; exact numE_in (k := 1) (.inl rfl) (by omega) (by simp; omega)
      have u9 := numS_le4 qv 1
      have hN8 : ((numS qv 1).size : Int) ≤ 4 := by omega
      have r2 := fun W => addS 9 X (numS qv 1) W (by omega) (by omega)
      clear HXs a2 a3
      go_wp2_with fail
      refine (CN.out _ _ _ NQ.out).mono ?_
      rintro e w3 ⟨rfl, hb3⟩
      have HR2 : Hid (Below w.heap.size w w3 ∧ w3.heap[w.heap.size]? = some (.cells #[.int .i64 9, .bool false, .bool false, .bool false, .bool false, .int .i64 0, .int .i64 i, .int .i64 0, .int .i64 0, .string ⟨#[]⟩, .string ⟨#[]⟩, .string ⟨#[]⟩, .slice aa 0 ca, .slice (some ⟨b, o, none⟩) l.length cc] 35 (0, 0))) := ⟨below_step HR.out.1 hb3, (hb3.block _ (Array.getElem?_eq_some_iff.1 HR.out.2).1).trans HR.out.2⟩
      clear hb3 x1
      have x1 := fun o => Lib.cell_of_heap HR2.out.2 o
      go_wp2
      go_round
      case rel => exact ⟨n + 1, by omega, by go_num, by rw [HSK.out], HR2.out⟩
      case measure => simp [intOf]; omega
    · have hke : l.take n = l := List.take_of_length_le (by omega)
      rw [hke]
      clear HL HA HP hke
      generalize hBB : numS i 2 ++ numsS 1 l = BX at *
      have HBB := hide hBB
      clear hBB
      go_wp2_with fail
      refine (CN.out _ _ _ NF.out).mono ?_
      rintro e wf ⟨rfl, hbf⟩
      have HBf := hide (below_step HR.out.1 hbf)
      clear hbf
      go_wp2_with fail
      refine (CL.out _).mono ?_
      rintro e wl ⟨rfl, hbl⟩
      have HBl := hide (below_step HBf.out hbl)
      clear hbl HBf
      go_wp2
      go_ret
      exact ⟨by rw [HBB.out]; rfl, HBl.out⟩

end Go.Proofs.YtnjdpibgfbbkcabGreatDoor
/-
  The reference's PacketBytes: of a packet that fits its bytes.
-/
namespace Go.Proofs.YtnjdpibgfbbkcabGreatDoor
open Go.RowKit Go.PlainAid

theorem enc_is {p : Pk} {f : Int} {B : ByteArray} (hF : firstN p = f) (hB : bodyS p = B) : numS f 1 ++ longS B.size ++ B = encP p := by
  rw [encP, numsS_one, hF, hB]

set_option maxRecDepth 100000 in
set_option maxHeartbeats 8000000 in
theorem bytesP_any (p : Pk) (aa ac : Option Addr) (ca cc : Nat) (w : World) (hp : PkIn w p aa ac) (hf : FitP p) (hpl : p.payload.size ≤ 1048576) (hba : (asksS p.kind p.asks).size ≤ 1048576) (hbc : (numsS 1 p.codes).size ≤ 1048576) :
    Calls Tryz.prog 24 #[pkV p aa ca ac cc] w fun e w' => e = .returned (.string (encP p)) ∧ Below w.heap.size w w' := by
  have hz := bareB_ok hf.bare
  have hkB := hf.kind
  obtain ⟨_, _, hcon, hack, hpub, hwid, hasks, hcodes⟩ := hf
  obtain ⟨k, d, r, c, s, q, i, kp, cd, cl, tp, pl, sa, cs⟩ := p
  obtain ⟨hpa, hpc⟩ := hp
  simp only at hkB hcon hack hpub hwid hasks hcodes hpa hpc hpl hba hbc
  simp only [pkV]
  rcases kinds hkB with h | h | h | h | h | h | h | h | h | h | h
  · subst h
    simp only [wn, if_pos] at hz
    obtain ⟨rfl, rfl, _, rfl, rfl, rfl, _, rfl, _, rfl, rfl, rfl, rfl⟩ := hz
    have g := hcon rfl
    refine (bytes_connect c kp cl ⟨g.2.1, g.2.2⟩ g.1 (txtS cl) rfl aa ac ca cc w).mono ?_
    rintro e w' ⟨rfl, h⟩
    refine ⟨congrArg (fun x => Ending.returned (.string x)) (enc_is rfl ?_), h⟩
    show connectS _ = _
    rw [connectS, numsS_two, numsS_one, ba_assoc, ba_assoc, ba_assoc, ba_assoc]; simp only [ba_assoc]
  · subst h
    rw [wn, if_neg (by simp), if_pos rfl] at hz
    obtain ⟨rfl, rfl, rfl, _, rfl, rfl, rfl, _, rfl, rfl, rfl, rfl, rfl⟩ := hz
    have g := hack rfl
    refine (bytes_ack s cd g aa ac ca cc w).mono ?_
    rintro e w' ⟨rfl, h⟩
    refine ⟨congrArg (fun x => Ending.returned (.string x)) (enc_is rfl ?_), h⟩
    show numsS 1 [flagN s 1, cd] = _
    rw [numsS_two]
  · subst h
    rw [wn, if_neg (by simp), if_neg (by simp), if_pos rfl] at hz
    obtain ⟨_, _, rfl, rfl, _, _, rfl, rfl, rfl, _, _, rfl, rfl⟩ := hz
    have g := hpub rfl
    have hS : ∀ q i, bodyS ⟨3, d, r, false, false, q, i, 0, 0, ⟨#[]⟩, tp, pl, [], []⟩ = txtS tp ++ (if q = 1 then numsS 2 [i] else ⟨#[]⟩) ++ pl := fun q i => rfl
    rcases g.2.1 with rfl | rfl
    · have hi := g.2.2.2 rfl
      subst hi
      refine (bytes_pub0 d r tp pl g.1 hpl (txtS tp) rfl (flagN d 8) (flagN r 1) rfl rfl aa ac ca cc w).mono ?_
      rintro e w' ⟨rfl, h⟩
      refine ⟨congrArg (fun x => Ending.returned (.string x)) (enc_is ?_ ?_), h⟩
      · show 3 * 16 + (flagN d 8 + 0 * 2 + flagN r 1) = _; omega
      · rw [hS, if_neg (by decide), ba_append_nil]
    · have hi := g.2.2.1 rfl
      refine (bytes_pub1 d r i hi tp pl g.1 hpl (txtS tp) rfl (flagN d 8) (flagN r 1) rfl rfl aa ac ca cc w).mono ?_
      rintro e w' ⟨rfl, h⟩
      refine ⟨congrArg (fun x => Ending.returned (.string x)) (enc_is ?_ ?_), h⟩
      · show 3 * 16 + (flagN d 8 + 1 * 2 + flagN r 1) = _; omega
      · rw [hS, if_pos rfl, numsS_one]
  · subst h
    rw [wn, if_neg (by simp), if_neg (by simp), if_neg (by simp), if_pos (by simp)] at hz
    obtain ⟨rfl, rfl, rfl, rfl, rfl, _, rfl, rfl, rfl, rfl, rfl, rfl, rfl⟩ := hz
    have g := hwid (by decide)
    refine (bytes_id4 i g aa ac ca cc w).mono ?_
    rintro e w' ⟨rfl, h⟩
    refine ⟨congrArg (fun x => Ending.returned (.string x)) (enc_is rfl ?_), h⟩
    show numsS 2 [i] ++ asksS 4 [] ++ numsS 1 [] = _
    rw [numsS_one, asksS, numsS, ba_append_nil, ba_append_nil]
  · subst h
    rw [wn, if_neg (by simp), if_neg (by simp), if_neg (by simp), if_neg (by simp), if_pos (by simp)] at hz
    obtain ⟨rfl, rfl, rfl, rfl, rfl, _, rfl, rfl, rfl, rfl, rfl, _, rfl⟩ := hz
    have g := hwid (by decide)
    have hS : bodyS ⟨8, false, false, false, false, 0, i, 0, 0, ⟨#[]⟩, ⟨#[]⟩, ⟨#[]⟩, sa, []⟩ = numS i 2 ++ asksS 8 sa := by
      show numsS 2 [i] ++ asksS 8 sa ++ numsS 1 [] = _
      rw [numsS_one, numsS, ba_append_nil]
    have hl := asks_len65 8 sa (fun a ha => (hasks a ha).1)
    refine (bytes_asks8 i g sa (fun a ha => ⟨(hasks a ha).1, (hasks a ha).2.1⟩) hba (by omega) aa ac ca cc w hpa).mono ?_
    rintro e w' ⟨rfl, h⟩
    exact ⟨congrArg (fun x => Ending.returned (.string x)) (enc_is rfl hS), h⟩
  · subst h
    rw [wn, if_neg (by simp), if_neg (by simp), if_neg (by simp), if_neg (by simp), if_neg (by simp), if_pos (by simp)] at hz
    obtain ⟨rfl, rfl, rfl, rfl, rfl, _, rfl, rfl, rfl, rfl, rfl, rfl, _⟩ := hz
    have g := hwid (by decide)
    have hS : bodyS ⟨9, false, false, false, false, 0, i, 0, 0, ⟨#[]⟩, ⟨#[]⟩, ⟨#[]⟩, [], cs⟩ = numS i 2 ++ numsS 1 cs := by
      show numsS 2 [i] ++ asksS 9 [] ++ numsS 1 cs = _
      rw [numsS_one, asksS, ba_append_nil]
    have hl := codes_len cs (fun a ha => by have := hcodes a ha; omega)
    refine (bytes_codes i g cs hcodes hbc (by omega) aa ac ca cc w hpc).mono ?_
    rintro e w' ⟨rfl, h⟩
    exact ⟨congrArg (fun x => Ending.returned (.string x)) (enc_is rfl hS), h⟩
  · subst h
    rw [wn, if_neg (by simp), if_neg (by simp), if_neg (by simp), if_neg (by simp), if_pos (by simp)] at hz
    obtain ⟨rfl, rfl, rfl, rfl, rfl, _, rfl, rfl, rfl, rfl, rfl, _, rfl⟩ := hz
    have g := hwid (by decide)
    have hS : bodyS ⟨10, false, false, false, false, 0, i, 0, 0, ⟨#[]⟩, ⟨#[]⟩, ⟨#[]⟩, sa, []⟩ = numS i 2 ++ asksS 10 sa := by
      show numsS 2 [i] ++ asksS 10 sa ++ numsS 1 [] = _
      rw [numsS_one, numsS, ba_append_nil]
    have hl := asks_len65 10 sa (fun a ha => (hasks a ha).1)
    refine (bytes_asks10 i g sa (fun a ha => ⟨(hasks a ha).1, (hasks a ha).2.1⟩) hba (by omega) aa ac ca cc w hpa).mono ?_
    rintro e w' ⟨rfl, h⟩
    exact ⟨congrArg (fun x => Ending.returned (.string x)) (enc_is rfl hS), h⟩
  · subst h
    rw [wn, if_neg (by simp), if_neg (by simp), if_neg (by simp), if_pos (by simp)] at hz
    obtain ⟨rfl, rfl, rfl, rfl, rfl, _, rfl, rfl, rfl, rfl, rfl, rfl, rfl⟩ := hz
    have g := hwid (by decide)
    refine (bytes_id11 i g aa ac ca cc w).mono ?_
    rintro e w' ⟨rfl, h⟩
    refine ⟨congrArg (fun x => Ending.returned (.string x)) (enc_is rfl ?_), h⟩
    show numsS 2 [i] ++ asksS 11 [] ++ numsS 1 [] = _
    rw [numsS_one, asksS, numsS, ba_append_nil, ba_append_nil]
  all_goals
    subst h
    rw [wn, if_neg (by simp), if_neg (by simp), if_neg (by simp), if_neg (by simp), if_neg (by simp), if_neg (by simp)] at hz
    obtain ⟨rfl, rfl, rfl, rfl, rfl, rfl, rfl, rfl, rfl, rfl, rfl, rfl, rfl⟩ := hz
    refine (bytes_bare _ (by decide) aa ac ca cc w).mono ?_
    rintro e w' ⟨rfl, h⟩
    refine ⟨congrArg (fun x => Ending.returned (.string x)) ?_, h⟩
    exact enc_is (f := 16 * _) (B := ⟨#[]⟩) rfl rfl
end Go.Proofs.YtnjdpibgfbbkcabGreatDoor
