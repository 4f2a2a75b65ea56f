/-
  The reference's PacketBytes: kind 1.
-/
import Derived.Test.YtnjdpibgfbbkcabGreatDoorRefPkBytes2
namespace Go.Proofs.YtnjdpibgfbbkcabGreatDoor
open Go.RowKit Go.PlainAid

theorem txtS_le (t : ByteArray) (h : t.size ≤ 65535) : (txtS t).size = 2 + t.size := txtS_len h
set_option maxHeartbeats 8000000 in
set_option maxRecDepth 100000 in
theorem bytes_connect (cn : Bool) (kp : Int) (cl : ByteArray) (hk : 0 ≤ kp ∧ kp ≤ 65535) (hc : cl.size ≤ 65535) (T : ByteArray) (hT : txtS cl = T) (aa ac : Option Addr) (ca cc : Nat) (w : World) :
    Calls Tryz.prog 24 #[.agg #[.int .i64 1, .bool false, .bool false, .bool cn, .bool false, .int .i64 0, .int .i64 0, .int .i64 kp, .int .i64 0, .string cl, .string ⟨#[]⟩, .string ⟨#[]⟩, .slice aa 0 ca, .slice ac 0 cc]] w fun e w' => e = .returned (.string (numS 16 1 ++ longS (txtS ⟨#[77, 81, 84, 84]⟩ ++ numS 4 1 ++ numS (flagN cn 2) 1 ++ numS kp 2 ++ T).size ++ (txtS ⟨#[77, 81, 84, 84]⟩ ++ numS 4 1 ++ numS (flagN cn 2) 1 ++ numS kp 2 ++ T))) ∧ Below w.heap.size w w' := by
  have hf := flagN_le cn 2 (by omega)
  have CG := hide (fun W => flagRef_any cn 2 W)
  have CN : Hid (∀ v k W, numE v k = 0 → Calls Tryz.prog 46 #[.int .i64 v, .int .i64 k] W fun e w' => e = .returned (.string (numS v k)) ∧ Below W.heap.size W w') := fun v k W h => numberOf_any v k W h
  have CT : Hid (∀ t X W, t.size ≤ 65535 ∧ txtS t = X → Calls Tryz.prog 45 #[.string t] W fun e w' => e = .returned (.string X) ∧ Below W.heap.size W w') := fun t X W h => by
    rw [← h.2]
    exact textOf_yes t W (by omega)
  have N1 : Hid (numE 4 1 = 0) := by show _ = _; exact numE_in (k := 1) (.inl rfl) (by omega) (by first | (simp; done) | (simp; omega))
  have N2 : Hid (numE (flagN cn 2) 1 = 0) := by show _ = _; exact numE_in (k := 1) (.inl rfl) (by omega) (by simp; omega)
  have N3 : Hid (numE kp 2 = 0) := by show _ = _; exact numE_in (k := 2) (.inr rfl) (by omega) (by simp; omega)
  have HC : Hid (cl.size ≤ 65535 ∧ txtS cl = T) := ⟨hc, hT⟩
  have u1 : (txtS ⟨#[77, 81, 84, 84]⟩).size = 2 + 4 := txtS_le _ (by decide)
  have u2 := numS_le4 4 1
  have u3 := numS_le4 (flagN cn 2) 1
  have u4 := numS_le4 kp 2
  have u5 : T.size = 2 + cl.size := by rw [← hT]; exact txtS_le cl hc
  have u6 : T.size ≤ 65537 := by omega
  have u7 : (T.size : Int) ≤ 8388608 := by omega
  have t0 : (txtS ⟨#[77, 81, 84, 84]⟩ ++ numS 4 1 ++ numS (flagN cn 2) 1 ++ numS kp 2 ++ T).size ≤ 70000 := by simp only [ByteArray.size_append]; omega
  have r1 := fun W => addS 9 (txtS ⟨#[77, 81, 84, 84]⟩) (numS 4 1) W (by omega) (by omega)
  have r2 := fun W => addS 9 (txtS ⟨#[77, 81, 84, 84]⟩ ++ numS 4 1) (numS (flagN cn 2) 1) W (by simp only [ByteArray.size_append]; omega) (by omega)
  have r3 := fun W => addS 9 (txtS ⟨#[77, 81, 84, 84]⟩ ++ numS 4 1 ++ numS (flagN cn 2) 1) (numS kp 2) W (by simp only [ByteArray.size_append]; omega) (by omega)
  have r4 := fun W => addS 9 (txtS ⟨#[77, 81, 84, 84]⟩ ++ numS 4 1 ++ numS (flagN cn 2) 1 ++ numS kp 2) (T) W (by simp only [ByteArray.size_append]; omega) (by omega)
  have NF : Hid (numE (16) 1 = 0) := by show _ = _; exact numE_in (k := 1) (.inl rfl) (by omega) (by first | (simp; done) | (simp; omega))
  have CL : Hid (∀ W, Calls Tryz.prog 48 #[.int .i64 ((txtS ⟨#[77, 81, 84, 84]⟩ ++ numS 4 1 ++ numS (flagN cn 2) 1 ++ numS kp 2 ++ T).size : Nat)] W fun e w' => e = .returned (.string (longS (txtS ⟨#[77, 81, 84, 84]⟩ ++ numS 4 1 ++ numS (flagN cn 2) 1 ++ numS kp 2 ++ T).size)) ∧ Below W.heap.size W w') := fun W => longOfS_any (txtS ⟨#[77, 81, 84, 84]⟩ ++ numS 4 1 ++ numS (flagN cn 2) 1 ++ numS kp 2 ++ T).size W (by omega)
  have t1 := numS_le4 (16) 1
  have t2 := longS_le4 (txtS ⟨#[77, 81, 84, 84]⟩ ++ numS 4 1 ++ numS (flagN cn 2) 1 ++ numS kp 2 ++ T).size
  have t3 := fun W => addS 9 (numS (16) 1) (longS (txtS ⟨#[77, 81, 84, 84]⟩ ++ numS 4 1 ++ numS (flagN cn 2) 1 ++ numS kp 2 ++ T).size) W (by omega) (by omega)
  have t4 := fun W => addS 9 (numS (16) 1 ++ longS (txtS ⟨#[77, 81, 84, 84]⟩ ++ numS 4 1 ++ numS (flagN cn 2) 1 ++ numS kp 2 ++ T).size) (txtS ⟨#[77, 81, 84, 84]⟩ ++ numS 4 1 ++ numS (flagN cn 2) 1 ++ numS kp 2 ++ T) W (by rw [ByteArray.size_append]; omega) (by omega)
  clear hc hT
  have HB0 : Hid (Below w.heap.size w (w.alloc (.cells #[.int .i64 1, .bool false, .bool false, .bool cn, .bool false, .int .i64 0, .int .i64 0, .int .i64 kp, .int .i64 0, .string cl, .string ⟨#[]⟩, .string ⟨#[]⟩, .slice aa 0 ca, .slice ac 0 cc] 35)) ∧ (w.alloc (.cells #[.int .i64 1, .bool false, .bool false, .bool cn, .bool false, .int .i64 0, .int .i64 0, .int .i64 kp, .int .i64 0, .string cl, .string ⟨#[]⟩, .string ⟨#[]⟩, .slice aa 0 ca, .slice ac 0 cc] 35)).heap[w.heap.size]? = some (.cells #[.int .i64 1, .bool false, .bool false, .bool cn, .bool false, .int .i64 0, .int .i64 0, .int .i64 kp, .int .i64 0, .string cl, .string ⟨#[]⟩, .string ⟨#[]⟩, .slice aa 0 ca, .slice ac 0 cc] 35 (0, 0))) := ⟨(Below.refl w.heap.size w).alloc (Nat.le_refl _) _, Go.heap_alloc_new w _⟩
  go_enter Tryz.func24, Tryz.ntmps24
  go_upto_region 1 with fail
  revert HB0
  generalize w.alloc (.cells #[.int .i64 1, .bool false, .bool false, .bool cn, .bool false, .int .i64 0, .int .i64 0, .int .i64 kp, .int .i64 0, .string cl, .string ⟨#[]⟩, .string ⟨#[]⟩, .slice aa 0 ca, .slice ac 0 cc] 35) = W0
  intro HB0
  have x1 := fun o => Lib.cell_of_heap HB0.out.2 o
  go_upto_region 5 with fail
  have q3 : W0.cell? ⟨w.heap.size, 3, none⟩ = some (.bool cn) := x1 3
  have q7 : W0.cell? ⟨w.heap.size, 7, none⟩ = some (.int .i64 kp) := x1 7
  have q9 : W0.cell? ⟨w.heap.size, 9, none⟩ = some (.string cl) := x1 9
  have HX : Hid (W0.drew.heap[w.heap.size]? = some (.cells #[.int .i64 1, .bool false, .bool false, .bool cn, .bool false, .int .i64 0, .int .i64 0, .int .i64 kp, .int .i64 0, .string cl, .string ⟨#[]⟩, .string ⟨#[]⟩, .slice aa 0 ca, .slice ac 0 cc] 35 (0, 0))) := HB0.out.2
  have HBc : Hid (Below w.heap.size w W0.drew) := HB0.out.1.drew
  clear x1
  go_region_held (fun w' => w'.cell? ⟨w.heap.size, 3, none⟩ = some (.bool cn) ∧ w'.cell? ⟨w.heap.size, 7, none⟩ = some (.int .i64 kp) ∧ w'.cell? ⟨w.heap.size, 9, none⟩ = some (.string cl)) (first | (refine ⟨?_, ?_, ?_⟩ <;> assumption) | exact ⟨Lib.cell_of_heap HX.out 3, Lib.cell_of_heap HX.out 7, Lib.cell_of_heap HX.out 9⟩ | go_keep | fail)
    (first
      | (go_at_call 47; refine (CG.out _).mono ?_; rintro e wa ⟨rfl, rfl⟩)
      | (go_at_call 46; refine (CN.out _ _ _ (by first | exact N1.out | exact N2.out | exact N3.out)).mono ?_; rintro e wx ⟨rfl, hbx⟩; have HX := hide ((hbx.block _ (Array.getElem?_eq_some_iff.1 HX.out).1).trans HX.out); have HBc := hide (below_step HBc.out hbx); clear hbx)
      | (go_at_call 45; refine (CT.out _ _ _ (by first | exact HC.out | exact ⟨by decide, rfl⟩)).mono ?_; rintro e wx ⟨rfl, hbx⟩; have HX := hide ((hbx.block _ (Array.getElem?_eq_some_iff.1 HX.out).1).trans HX.out); have HBc := hide (below_step HBc.out hbx); clear hbx)
      | fail)
  all_goals
    clear r1 r2 r3 r4 u1 u2 u3 u4 u5 u6 u7
    generalize hBB : txtS ⟨#[77, 81, 84, 84]⟩ ++ numS 4 1 ++ numS (flagN cn 2) 1 ++ numS kp 2 ++ T = BX at *
    have HBB := hide hBB
    clear hBB
    go_wp2_with fail
    refine (CN.out _ _ _ NF.out).mono ?_
    rintro e wf ⟨rfl, hbf⟩
    have HBf := hide (below_step HBc.out hbf)
    clear hbf
    go_wp2_with fail
    refine (CL.out _).mono ?_
    rintro e wl ⟨rfl, hbl⟩
    have HBl := hide (below_step HBf.out hbl)
    clear hbl HBf
    go_wp2
    go_ret
    exact ⟨by rw [HBB.out]; rfl, HBl.out⟩

end Go.Proofs.YtnjdpibgfbbkcabGreatDoor
