/-
  The reference's PacketBytes: its small calls; kinds 12 to 14.
-/
import Derived.Test.YtnjdpibgfbbkcabGreatDoorRefPkCheck
import Derived.Test.YtnjdpibgfbbkcabGreatDoorWriterKinds
import Derived.Test.YtnjdpibgfbbkcabGreatDoorWireNumber
import Derived.Deep.RegionHeld3
import Derived.Test.YtnjdpibgfbbkcabGreatDoorPacketBackJoined
import Derived.Deep.RegionHeld
namespace Go.Proofs.YtnjdpibgfbbkcabGreatDoor
open Go.RowKit Go.PlainAid

theorem longS_le4 (n : Int) : (longS n).size ≤ 4 := by
  unfold longS
  split
  · exact Nat.zero_le 4
  · have h := longL_length 3 n.toNat
    have : (strOfNums (longL 3 n.toNat)).size = (longL 3 n.toNat).length := by simp [strOfNums, ByteArray.size]
    omega
theorem longOfS_any (n : Nat) (w : World) (h : n ≤ 268435455) : Calls Tryz.prog 48 #[.int .i64 n] w fun e w' => e = .returned (.string (longS n)) ∧ Below w.heap.size w w' := by
  have := longOf_any 3 n w (by omega) (by omega)
  unfold longS
  rw [if_neg (by omega)]
  exact this
theorem numberOfS (x : Int) (k : Nat) (w : World) (hk : k = 1 ∨ k = 2) (h0 : 0 ≤ x) (h1 : x < 256 ^ k) : Calls Tryz.prog 46 #[.int .i64 x, .int .i64 k] w fun e w' => e = .returned (.string (numS x k)) ∧ Below w.heap.size w w' := by
  refine numberOf_any x k w (numE_ok (by omega) ?_)
  rcases hk with rfl | rfl
  · simp at h1 ⊢; omega
  · simp at h1 ⊢; omega
theorem flagRef_any (b : Bool) (n : Int) (w : World) : Calls Tryz.prog 47 #[.bool b, .int .i64 n] w fun e w' => e = .returned (.int .i64 (flagN b n)) ∧ w' = w := by
  cases b with
  | true =>
    go_enter Tryz.func47, Tryz.ntmps47
    go_wp2
    go_ret
    exact ⟨rfl, rfl⟩
  | false =>
    go_enter Tryz.func47, Tryz.ntmps47
    go_wp2
    go_ret
    exact ⟨rfl, rfl⟩
theorem addS (t : TypeId) (a b : ByteArray) (W : World) (ha : (a.size : Int) ≤ 8388608) (hb : (b.size : Int) ≤ 8388608) : (binOp .add t (.string a) (.string b)).run Tryz.prog W = .ok (.string (a ++ b)) W := by simp [binOp, run_string_add, *]

set_option maxHeartbeats 8000000 in
set_option maxRecDepth 100000 in
theorem bytes_bare (k : Int) (hk : k = 12 ∨ k = 13 ∨ k = 14) (aa ac : Option Addr) (ca cc : Nat) (w : World) :
    Calls Tryz.prog 24 #[.agg #[.int .i64 k, .bool false, .bool false, .bool false, .bool false, .int .i64 0, .int .i64 0, .int .i64 0, .int .i64 0, .string ⟨#[]⟩, .string ⟨#[]⟩, .string ⟨#[]⟩, .slice aa 0 ca, .slice ac 0 cc]] w fun e w' => e = .returned (.string (numS (16 * k) 1 ++ longS 0 ++ ⟨#[]⟩)) ∧ Below w.heap.size w w' := by
  have CN : Hid (∀ W, Calls Tryz.prog 46 #[.int .i64 (16 * k), .int .i64 1] W fun e w' => e = .returned (.string (numS (16 * k) 1)) ∧ Below W.heap.size W w') := fun W => numberOfS (16 * k) 1 W (.inl rfl) (by omega) (by omega)
  have CL : Hid (∀ W, Calls Tryz.prog 48 #[.int .i64 0] W fun e w' => e = .returned (.string (longS 0)) ∧ Below W.heap.size W w') := fun W => longOfS_any 0 W (by omega)
  have s1 := numS_le4 (16 * k) 1
  have s2 := longS_le4 0
  have hw : IntKind.i64.wrap (16 * k) = 16 * k := by rw [IntKind.wrap_i64]; omega
  have r1 := fun W => addS 9 (numS (16 * k) 1) (longS 0) W (by omega) (by omega)
  have r2 := fun W => addS 9 (numS (16 * k) 1 ++ longS 0) ⟨#[]⟩ W (by rw [ByteArray.size_append]; omega) (by decide)
  have HB0 : Hid (Below w.heap.size w (w.alloc (.cells #[.int .i64 k, .bool false, .bool false, .bool false, .bool false, .int .i64 0, .int .i64 0, .int .i64 0, .int .i64 0, .string ⟨#[]⟩, .string ⟨#[]⟩, .string ⟨#[]⟩, .slice aa 0 ca, .slice ac 0 cc] 35)) ∧ (w.alloc (.cells #[.int .i64 k, .bool false, .bool false, .bool false, .bool false, .int .i64 0, .int .i64 0, .int .i64 0, .int .i64 0, .string ⟨#[]⟩, .string ⟨#[]⟩, .string ⟨#[]⟩, .slice aa 0 ca, .slice ac 0 cc] 35)).heap[w.heap.size]? = some (.cells #[.int .i64 k, .bool false, .bool false, .bool false, .bool false, .int .i64 0, .int .i64 0, .int .i64 0, .int .i64 0, .string ⟨#[]⟩, .string ⟨#[]⟩, .string ⟨#[]⟩, .slice aa 0 ca, .slice ac 0 cc] 35 (0, 0))) := ⟨(Below.refl w.heap.size w).alloc (Nat.le_refl _) _, Go.heap_alloc_new w _⟩
  go_enter Tryz.func24, Tryz.ntmps24
  go_upto_region 1 with fail
  revert HB0
  generalize w.alloc (.cells #[.int .i64 k, .bool false, .bool false, .bool false, .bool false, .int .i64 0, .int .i64 0, .int .i64 0, .int .i64 0, .string ⟨#[]⟩, .string ⟨#[]⟩, .string ⟨#[]⟩, .slice aa 0 ca, .slice ac 0 cc] 35) = W0
  intro HB0
  have x1 := fun o => Lib.cell_of_heap HB0.out.2 o
  have e1 : (k == 1) = false := by simp; omega
  have e2 : (k == 2) = false := by simp; omega
  have e3 : (k == 3) = false := by simp; omega
  have e4 : (k == 4) = false := by simp; omega
  have e8 : (k == 8) = false := by simp; omega
  have e9 : (k == 9) = false := by simp; omega
  have e10 : (k == 10) = false := by simp; omega
  have e11 : (k == 11) = false := by simp; omega
  clear hk
  go_wp2_with fail
  refine (CN.out _).mono ?_
  rintro e w1 ⟨rfl, hb1⟩
  have HB1 := hide (below_step HB0.out.1 hb1)
  clear hb1 x1 HB0
  go_wp2_with fail
  refine (CL.out _).mono ?_
  rintro e w2 ⟨rfl, hb2⟩
  have HB2 := hide (below_step HB1.out hb2)
  clear hb2 HB1
  go_wp2
  go_ret
  exact ⟨rfl, HB2.out⟩
end Go.Proofs.YtnjdpibgfbbkcabGreatDoor
/-
  The reference's PacketBytes: kinds 2, 4, 11.
-/
namespace Go.Proofs.YtnjdpibgfbbkcabGreatDoor
open Go.RowKit Go.PlainAid

set_option maxHeartbeats 4000000 in
set_option maxRecDepth 100000 in
theorem bytes_id4 (i : Int) (hi : 0 ≤ i ∧ i ≤ 65535) (aa ac : Option Addr) (ca cc : Nat) (w : World) :
    Calls Tryz.prog 24 #[.agg #[.int .i64 4, .bool false, .bool false, .bool false, .bool false, .int .i64 0, .int .i64 i, .int .i64 0, .int .i64 0, .string ⟨#[]⟩, .string ⟨#[]⟩, .string ⟨#[]⟩, .slice aa 0 ca, .slice ac 0 cc]] w fun e w' => e = .returned (.string (numS 64 1 ++ longS (numS i 2).size ++ numS i 2)) ∧ Below w.heap.size w w' := by
  have CN : Hid (∀ v k W, numE v k = 0 → Calls Tryz.prog 46 #[.int .i64 v, .int .i64 k] W fun e w' => e = .returned (.string (numS v k)) ∧ Below W.heap.size W w') := fun v k W h => numberOf_any v k W h
  have NI : Hid (numE i 2 = 0) := by show _ = _; exact numE_in (k := 2) (.inr rfl) (by omega) (by simp; omega)
  have t0 := numS_le4 i 2
  have NF : Hid (numE (64) 1 = 0) := by show _ = _; exact numE_in (k := 1) (.inl rfl) (by omega) (by first | (simp; done) | (simp; omega))
  have CL : Hid (∀ W, Calls Tryz.prog 48 #[.int .i64 ((numS i 2).size : Nat)] W fun e w' => e = .returned (.string (longS (numS i 2).size)) ∧ Below W.heap.size W w') := fun W => longOfS_any (numS i 2).size W (by omega)
  have t1 := numS_le4 (64) 1
  have t2 := longS_le4 (numS i 2).size
  have t3 := fun W => addS 9 (numS (64) 1) (longS (numS i 2).size) W (by omega) (by omega)
  have t4 := fun W => addS 9 (numS (64) 1 ++ longS (numS i 2).size) (numS i 2) W (by rw [ByteArray.size_append]; omega) (by omega)
  have HB0 : Hid (Below w.heap.size w (w.alloc (.cells #[.int .i64 4, .bool false, .bool false, .bool false, .bool false, .int .i64 0, .int .i64 i, .int .i64 0, .int .i64 0, .string ⟨#[]⟩, .string ⟨#[]⟩, .string ⟨#[]⟩, .slice aa 0 ca, .slice ac 0 cc] 35)) ∧ (w.alloc (.cells #[.int .i64 4, .bool false, .bool false, .bool false, .bool false, .int .i64 0, .int .i64 i, .int .i64 0, .int .i64 0, .string ⟨#[]⟩, .string ⟨#[]⟩, .string ⟨#[]⟩, .slice aa 0 ca, .slice ac 0 cc] 35)).heap[w.heap.size]? = some (.cells #[.int .i64 4, .bool false, .bool false, .bool false, .bool false, .int .i64 0, .int .i64 i, .int .i64 0, .int .i64 0, .string ⟨#[]⟩, .string ⟨#[]⟩, .string ⟨#[]⟩, .slice aa 0 ca, .slice ac 0 cc] 35 (0, 0))) := ⟨(Below.refl w.heap.size w).alloc (Nat.le_refl _) _, Go.heap_alloc_new w _⟩
  go_enter Tryz.func24, Tryz.ntmps24
  go_upto_region 1 with fail
  revert HB0
  generalize w.alloc (.cells #[.int .i64 4, .bool false, .bool false, .bool false, .bool false, .int .i64 0, .int .i64 i, .int .i64 0, .int .i64 0, .string ⟨#[]⟩, .string ⟨#[]⟩, .string ⟨#[]⟩, .slice aa 0 ca, .slice ac 0 cc] 35) = W0
  intro HB0
  have x1 := fun o => Lib.cell_of_heap HB0.out.2 o
  go_wp2_with fail
  refine (CN.out _ _ _ NI.out).mono ?_
  rintro e w1 ⟨rfl, hb1⟩
  have HB1 := hide (below_step HB0.out.1 hb1)
  clear hb1 x1 HB0
  generalize hBB : numS i 2 = BX at *
  have HBB := hide hBB
  clear hBB
  go_wp2_with fail
  refine (CN.out _ _ _ NF.out).mono ?_
  rintro e wf ⟨rfl, hbf⟩
  have HBf := hide (below_step HB1.out hbf)
  clear hbf
  go_wp2_with fail
  refine (CL.out _).mono ?_
  rintro e wl ⟨rfl, hbl⟩
  have HBl := hide (below_step HBf.out hbl)
  clear hbl HBf
  go_wp2
  go_ret
  exact ⟨by rw [HBB.out]; rfl, HBl.out⟩

set_option maxHeartbeats 4000000 in
set_option maxRecDepth 100000 in
theorem bytes_id11 (i : Int) (hi : 0 ≤ i ∧ i ≤ 65535) (aa ac : Option Addr) (ca cc : Nat) (w : World) :
    Calls Tryz.prog 24 #[.agg #[.int .i64 11, .bool false, .bool false, .bool false, .bool false, .int .i64 0, .int .i64 i, .int .i64 0, .int .i64 0, .string ⟨#[]⟩, .string ⟨#[]⟩, .string ⟨#[]⟩, .slice aa 0 ca, .slice ac 0 cc]] w fun e w' => e = .returned (.string (numS 176 1 ++ longS (numS i 2).size ++ numS i 2)) ∧ Below w.heap.size w w' := by
  have CN : Hid (∀ v k W, numE v k = 0 → Calls Tryz.prog 46 #[.int .i64 v, .int .i64 k] W fun e w' => e = .returned (.string (numS v k)) ∧ Below W.heap.size W w') := fun v k W h => numberOf_any v k W h
  have NI : Hid (numE i 2 = 0) := by show _ = _; exact numE_in (k := 2) (.inr rfl) (by omega) (by simp; omega)
  have t0 := numS_le4 i 2
  have NF : Hid (numE (176) 1 = 0) := by show _ = _; exact numE_in (k := 1) (.inl rfl) (by omega) (by first | (simp; done) | (simp; omega))
  have CL : Hid (∀ W, Calls Tryz.prog 48 #[.int .i64 ((numS i 2).size : Nat)] W fun e w' => e = .returned (.string (longS (numS i 2).size)) ∧ Below W.heap.size W w') := fun W => longOfS_any (numS i 2).size W (by omega)
  have t1 := numS_le4 (176) 1
  have t2 := longS_le4 (numS i 2).size
  have t3 := fun W => addS 9 (numS (176) 1) (longS (numS i 2).size) W (by omega) (by omega)
  have t4 := fun W => addS 9 (numS (176) 1 ++ longS (numS i 2).size) (numS i 2) W (by rw [ByteArray.size_append]; omega) (by omega)
  have HB0 : Hid (Below w.heap.size w (w.alloc (.cells #[.int .i64 11, .bool false, .bool false, .bool false, .bool false, .int .i64 0, .int .i64 i, .int .i64 0, .int .i64 0, .string ⟨#[]⟩, .string ⟨#[]⟩, .string ⟨#[]⟩, .slice aa 0 ca, .slice ac 0 cc] 35)) ∧ (w.alloc (.cells #[.int .i64 11, .bool false, .bool false, .bool false, .bool false, .int .i64 0, .int .i64 i, .int .i64 0, .int .i64 0, .string ⟨#[]⟩, .string ⟨#[]⟩, .string ⟨#[]⟩, .slice aa 0 ca, .slice ac 0 cc] 35)).heap[w.heap.size]? = some (.cells #[.int .i64 11, .bool false, .bool false, .bool false, .bool false, .int .i64 0, .int .i64 i, .int .i64 0, .int .i64 0, .string ⟨#[]⟩, .string ⟨#[]⟩, .string ⟨#[]⟩, .slice aa 0 ca, .slice ac 0 cc] 35 (0, 0))) := ⟨(Below.refl w.heap.size w).alloc (Nat.le_refl _) _, Go.heap_alloc_new w _⟩
  go_enter Tryz.func24, Tryz.ntmps24
  go_upto_region 1 with fail
  revert HB0
  generalize w.alloc (.cells #[.int .i64 11, .bool false, .bool false, .bool false, .bool false, .int .i64 0, .int .i64 i, .int .i64 0, .int .i64 0, .string ⟨#[]⟩, .string ⟨#[]⟩, .string ⟨#[]⟩, .slice aa 0 ca, .slice ac 0 cc] 35) = W0
  intro HB0
  have x1 := fun o => Lib.cell_of_heap HB0.out.2 o
  go_wp2_with fail
  refine (CN.out _ _ _ NI.out).mono ?_
  rintro e w1 ⟨rfl, hb1⟩
  have HB1 := hide (below_step HB0.out.1 hb1)
  clear hb1 x1 HB0
  generalize hBB : numS i 2 = BX at *
  have HBB := hide hBB
  clear hBB
  go_wp2_with fail
  refine (CN.out _ _ _ NF.out).mono ?_
  rintro e wf ⟨rfl, hbf⟩
  have HBf := hide (below_step HB1.out hbf)
  clear hbf
  go_wp2_with fail
  refine (CL.out _).mono ?_
  rintro e wl ⟨rfl, hbl⟩
  have HBl := hide (below_step HBf.out hbl)
  clear hbl HBf
  go_wp2
  go_ret
  exact ⟨by rw [HBB.out]; rfl, HBl.out⟩

set_option maxHeartbeats 4000000 in
set_option maxRecDepth 100000 in
theorem bytes_ack (s : Bool) (c : Int) (hc : 0 ≤ c ∧ c ≤ 255) (aa ac : Option Addr) (ca cc : Nat) (w : World) :
    Calls Tryz.prog 24 #[.agg #[.int .i64 2, .bool false, .bool false, .bool false, .bool s, .int .i64 0, .int .i64 0, .int .i64 0, .int .i64 c, .string ⟨#[]⟩, .string ⟨#[]⟩, .string ⟨#[]⟩, .slice aa 0 ca, .slice ac 0 cc]] w fun e w' => e = .returned (.string (numS 32 1 ++ longS (numS (flagN s 1) 1 ++ numS c 1).size ++ (numS (flagN s 1) 1 ++ numS c 1))) ∧ Below w.heap.size w w' := by
  have hf := flagN_le s 1 (by omega)
  have CG := hide (fun W => flagRef_any s 1 W)
  have CN : Hid (∀ v k W, numE v k = 0 → Calls Tryz.prog 46 #[.int .i64 v, .int .i64 k] W fun e w' => e = .returned (.string (numS v k)) ∧ Below W.heap.size W w') := fun v k W h => numberOf_any v k W h
  have NS : Hid (numE (flagN s 1) 1 = 0) := by show _ = _; exact numE_in (k := 1) (.inl rfl) (by omega) (by first | (simp; done) | (simp; omega))
  have NC : Hid (numE c 1 = 0) := by show _ = _; exact numE_in (k := 1) (.inl rfl) (by omega) (by first | (simp; done) | (simp; omega))
  have t0 := numS_le4 (flagN s 1) 1
  have t0' := numS_le4 c 1
  have t0'' : (numS (flagN s 1) 1 ++ numS c 1).size ≤ 8 := by rw [ByteArray.size_append]; omega
  have r0 := fun W => addS 9 (numS (flagN s 1) 1) (numS c 1) W (by omega) (by omega)
  have NF : Hid (numE (32) 1 = 0) := by show _ = _; exact numE_in (k := 1) (.inl rfl) (by omega) (by first | (simp; done) | (simp; omega))
  have CL : Hid (∀ W, Calls Tryz.prog 48 #[.int .i64 ((numS (flagN s 1) 1 ++ numS c 1).size : Nat)] W fun e w' => e = .returned (.string (longS (numS (flagN s 1) 1 ++ numS c 1).size)) ∧ Below W.heap.size W w') := fun W => longOfS_any (numS (flagN s 1) 1 ++ numS c 1).size W (by omega)
  have t1 := numS_le4 (32) 1
  have t2 := longS_le4 (numS (flagN s 1) 1 ++ numS c 1).size
  have t3 := fun W => addS 9 (numS (32) 1) (longS (numS (flagN s 1) 1 ++ numS c 1).size) W (by omega) (by omega)
  have t4 := fun W => addS 9 (numS (32) 1 ++ longS (numS (flagN s 1) 1 ++ numS c 1).size) (numS (flagN s 1) 1 ++ numS c 1) W (by rw [ByteArray.size_append]; omega) (by omega)
  have HB0 : Hid (Below w.heap.size w (w.alloc (.cells #[.int .i64 2, .bool false, .bool false, .bool false, .bool s, .int .i64 0, .int .i64 0, .int .i64 0, .int .i64 c, .string ⟨#[]⟩, .string ⟨#[]⟩, .string ⟨#[]⟩, .slice aa 0 ca, .slice ac 0 cc] 35)) ∧ (w.alloc (.cells #[.int .i64 2, .bool false, .bool false, .bool false, .bool s, .int .i64 0, .int .i64 0, .int .i64 0, .int .i64 c, .string ⟨#[]⟩, .string ⟨#[]⟩, .string ⟨#[]⟩, .slice aa 0 ca, .slice ac 0 cc] 35)).heap[w.heap.size]? = some (.cells #[.int .i64 2, .bool false, .bool false, .bool false, .bool s, .int .i64 0, .int .i64 0, .int .i64 0, .int .i64 c, .string ⟨#[]⟩, .string ⟨#[]⟩, .string ⟨#[]⟩, .slice aa 0 ca, .slice ac 0 cc] 35 (0, 0))) := ⟨(Below.refl w.heap.size w).alloc (Nat.le_refl _) _, Go.heap_alloc_new w _⟩
  go_enter Tryz.func24, Tryz.ntmps24
  go_upto_region 1 with fail
  revert HB0
  generalize w.alloc (.cells #[.int .i64 2, .bool false, .bool false, .bool false, .bool s, .int .i64 0, .int .i64 0, .int .i64 0, .int .i64 c, .string ⟨#[]⟩, .string ⟨#[]⟩, .string ⟨#[]⟩, .slice aa 0 ca, .slice ac 0 cc] 35) = W0
  intro HB0
  have x1 := fun o => Lib.cell_of_heap HB0.out.2 o
  go_upto_region 7 with fail
  have q4 : W0.cell? ⟨w.heap.size, 4, none⟩ = some (.bool s) := x1 4
  have q8 : W0.cell? ⟨w.heap.size, 8, none⟩ = some (.int .i64 c) := x1 8
  have HX : Hid (W0.drew.heap[w.heap.size]? = some (.cells #[.int .i64 2, .bool false, .bool false, .bool false, .bool s, .int .i64 0, .int .i64 0, .int .i64 0, .int .i64 c, .string ⟨#[]⟩, .string ⟨#[]⟩, .string ⟨#[]⟩, .slice aa 0 ca, .slice ac 0 cc] 35 (0, 0))) := HB0.out.2
  have HBc : Hid (Below w.heap.size w W0.drew) := HB0.out.1.drew
  clear x1
  go_region_held (fun w' => w'.cell? ⟨w.heap.size, 4, none⟩ = some (.bool s) ∧ w'.cell? ⟨w.heap.size, 8, none⟩ = some (.int .i64 c)) (first | (refine ⟨?_, ?_⟩ <;> assumption) | go_keep | exact ⟨Lib.cell_of_heap HX.out 4, Lib.cell_of_heap HX.out 8⟩)
    (first
      | (go_at_call 47; refine (CG.out _).mono ?_; rintro e wa ⟨rfl, rfl⟩)
      | (go_at_call 46; refine (CN.out _ _ _ (by first | exact NS.out | exact NC.out)).mono ?_; rintro e wx ⟨rfl, hbx⟩; have HX := hide ((hbx.block _ (Array.getElem?_eq_some_iff.1 HX.out).1).trans HX.out); have HBc := hide (below_step HBc.out hbx); clear hbx)
      | fail)
  all_goals
    generalize hBB : numS (flagN s 1) 1 ++ numS c 1 = BX at *
    have HBB := hide hBB
    clear hBB
    go_wp2_with fail
    refine (CN.out _ _ _ NF.out).mono ?_
    rintro e wf ⟨rfl, hbf⟩
    have HBf := hide (below_step HBc.out hbf)
    clear hbf
    go_wp2_with fail
    refine (CL.out _).mono ?_
    rintro e wl ⟨rfl, hbl⟩
    have HBl := hide (below_step HBf.out hbl)
    clear hbl HBf
    go_wp2
    go_ret
    exact ⟨by rw [HBB.out]; rfl, HBl.out⟩

end Go.Proofs.YtnjdpibgfbbkcabGreatDoor
