/-
  The reference's CheckPacket of a packet that has nothing that its kind does not name: kind 3.
-/
import Derived.Test.YtnjdpibgfbbkcabGreatDoorRefPkCheck
namespace Go.Proofs.YtnjdpibgfbbkcabGreatDoor
open Go.RowKit Go.PlainAid

set_option maxHeartbeats 16000000 in
set_option maxRecDepth 100000 in
theorem rckP_k3 (d : Bool) (r : Bool) (q : Int) (i : Int) (tp : ByteArray) (pl : ByteArray) (aa ac : Option Addr) (ca cc : Nat) (w : World) (ht : tp.size ≤ 1048576) :
    Calls Tryz.prog 25 #[.agg #[.int .i64 3, .bool d, .bool r, .bool false, .bool false, .int .i64 q, .int .i64 i, .int .i64 0, .int .i64 0, .string ⟨#[]⟩, .string tp, .string pl, .slice aa 0 ca, .slice ac 0 cc]] w fun e w' => e = .returned (.int .i64 (if chk nameF tp ≠ 0 then chk nameF tp else if 200 < pl.size then 2 else if ¬ (q = 0 ∨ q = 1) then 3 else if q = 1 then idE i else if d = true ∨ i ≠ 0 then 1 else 0)) ∧ Below w.heap.size w w' := by
  have CT := hide (fun W => checkTopic_any tp false W ht)
  rw [show lvF false = nameF from rfl] at CT
  generalize chk nameF tp = E at *
  by_cases h1 : E ≠ 0
  · rw [if_pos h1]
    have h1e : (E != 0) = true := by simp [h1]
    have HB0 : Hid (Below w.heap.size w (w.alloc (.cells #[.int .i64 3, .bool d, .bool r, .bool false, .bool false, .int .i64 q, .int .i64 i, .int .i64 0, .int .i64 0, .string ⟨#[]⟩, .string tp, .string pl, .slice aa 0 ca, .slice ac 0 cc] 35)) ∧ (w.alloc (.cells #[.int .i64 3, .bool d, .bool r, .bool false, .bool false, .int .i64 q, .int .i64 i, .int .i64 0, .int .i64 0, .string ⟨#[]⟩, .string tp, .string pl, .slice aa 0 ca, .slice ac 0 cc] 35)).heap[w.heap.size]? = some (.cells #[.int .i64 3, .bool d, .bool r, .bool false, .bool false, .int .i64 q, .int .i64 i, .int .i64 0, .int .i64 0, .string ⟨#[]⟩, .string tp, .string pl, .slice aa 0 ca, .slice ac 0 cc] 35 (0, 0))) := ⟨(Below.refl _ _).alloc (Nat.le_refl _) _, Go.heap_alloc_new w _⟩
    go_enter Tryz.func25, Tryz.ntmps25
    go_upto_region 24 with (go_at_call 21; refine (between_any _ _ _ _).mono ?_; rintro e w1 ⟨rfl, rfl⟩)
    revert HB0
    generalize w.alloc (.cells #[.int .i64 3, .bool d, .bool r, .bool false, .bool false, .int .i64 q, .int .i64 i, .int .i64 0, .int .i64 0, .string ⟨#[]⟩, .string tp, .string pl, .slice aa 0 ca, .slice ac 0 cc] 35) = W0
    intro HB0
    have x1 := fun o => Lib.cell_of_heap HB0.out.2 o
    go_wp2_with fail
    refine (CT.out _).mono ?_
    rintro e w1 ⟨rfl, hb⟩
    have HB0 : Hid (Below w.heap.size w w1 ∧ w1.heap[w.heap.size]? = _) := ⟨below_step HB0.out.1 hb, (hb.block _ (Array.getElem?_eq_some_iff.1 HB0.out.2).1).trans HB0.out.2⟩
    clear hb x1
    have x1 := fun o => Lib.cell_of_heap HB0.out.2 o
    go_wp2
    go_ret
    exact ⟨rfl, HB0.out.1⟩
  · rw [if_neg h1]
    have h1e : E = 0 := by simpa using h1
    subst h1e
    clear h1
    by_cases h2 : 200 < pl.size
    · rw [if_pos h2]
      have h2e : (200 : Int) < pl.size := by omega
      have HB0 : Hid (Below w.heap.size w (w.alloc (.cells #[.int .i64 3, .bool d, .bool r, .bool false, .bool false, .int .i64 q, .int .i64 i, .int .i64 0, .int .i64 0, .string ⟨#[]⟩, .string tp, .string pl, .slice aa 0 ca, .slice ac 0 cc] 35)) ∧ (w.alloc (.cells #[.int .i64 3, .bool d, .bool r, .bool false, .bool false, .int .i64 q, .int .i64 i, .int .i64 0, .int .i64 0, .string ⟨#[]⟩, .string tp, .string pl, .slice aa 0 ca, .slice ac 0 cc] 35)).heap[w.heap.size]? = some (.cells #[.int .i64 3, .bool d, .bool r, .bool false, .bool false, .int .i64 q, .int .i64 i, .int .i64 0, .int .i64 0, .string ⟨#[]⟩, .string tp, .string pl, .slice aa 0 ca, .slice ac 0 cc] 35 (0, 0))) := ⟨(Below.refl _ _).alloc (Nat.le_refl _) _, Go.heap_alloc_new w _⟩
      go_enter Tryz.func25, Tryz.ntmps25
      go_upto_region 24 with (go_at_call 21; refine (between_any _ _ _ _).mono ?_; rintro e w1 ⟨rfl, rfl⟩)
      revert HB0
      generalize w.alloc (.cells #[.int .i64 3, .bool d, .bool r, .bool false, .bool false, .int .i64 q, .int .i64 i, .int .i64 0, .int .i64 0, .string ⟨#[]⟩, .string tp, .string pl, .slice aa 0 ca, .slice ac 0 cc] 35) = W0
      intro HB0
      have x1 := fun o => Lib.cell_of_heap HB0.out.2 o
      go_wp2_with fail
      refine (CT.out _).mono ?_
      rintro e w1 ⟨rfl, hb⟩
      have HB0 : Hid (Below w.heap.size w w1 ∧ w1.heap[w.heap.size]? = _) := ⟨below_step HB0.out.1 hb, (hb.block _ (Array.getElem?_eq_some_iff.1 HB0.out.2).1).trans HB0.out.2⟩
      clear hb x1
      have x1 := fun o => Lib.cell_of_heap HB0.out.2 o
      go_wp2
      go_ret
      exact ⟨rfl, HB0.out.1⟩
    · rw [if_neg h2]
      have h2e : ¬ (200 : Int) < pl.size := by omega
      by_cases h3 : q = 0 ∨ q = 1
      · rw [if_neg (fun h => h h3)]
        rcases h3 with h3 | h3
        · subst h3
          rw [if_neg (by decide)]
          have HC := hide (fun W => hasId_any 3 0 d r false false i 0 0 ⟨#[]⟩ tp pl aa ac 0 0 ca cc W)
          rw [show hasB 3 0 = false by decide] at HC
          cases d with
          | true =>
            rw [if_pos (.inl rfl)]
            have HB0 : Hid (Below w.heap.size w (w.alloc (.cells #[.int .i64 3, .bool true, .bool r, .bool false, .bool false, .int .i64 0, .int .i64 i, .int .i64 0, .int .i64 0, .string ⟨#[]⟩, .string tp, .string pl, .slice aa 0 ca, .slice ac 0 cc] 35)) ∧ (w.alloc (.cells #[.int .i64 3, .bool true, .bool r, .bool false, .bool false, .int .i64 0, .int .i64 i, .int .i64 0, .int .i64 0, .string ⟨#[]⟩, .string tp, .string pl, .slice aa 0 ca, .slice ac 0 cc] 35)).heap[w.heap.size]? = some (.cells #[.int .i64 3, .bool true, .bool r, .bool false, .bool false, .int .i64 0, .int .i64 i, .int .i64 0, .int .i64 0, .string ⟨#[]⟩, .string tp, .string pl, .slice aa 0 ca, .slice ac 0 cc] 35 (0, 0))) := ⟨(Below.refl _ _).alloc (Nat.le_refl _) _, Go.heap_alloc_new w _⟩
            go_enter Tryz.func25, Tryz.ntmps25
            go_upto_region 24 with (go_at_call 21; refine (between_any _ _ _ _).mono ?_; rintro e w1 ⟨rfl, rfl⟩)
            revert HB0
            generalize w.alloc (.cells #[.int .i64 3, .bool true, .bool r, .bool false, .bool false, .int .i64 0, .int .i64 i, .int .i64 0, .int .i64 0, .string ⟨#[]⟩, .string tp, .string pl, .slice aa 0 ca, .slice ac 0 cc] 35) = W0
            intro HB0
            have x1 := fun o => Lib.cell_of_heap HB0.out.2 o
            go_wp2_with fail
            refine (CT.out _).mono ?_
            rintro e w1 ⟨rfl, hb⟩
            have HB0 : Hid (Below w.heap.size w w1 ∧ w1.heap[w.heap.size]? = _) := ⟨below_step HB0.out.1 hb, (hb.block _ (Array.getElem?_eq_some_iff.1 HB0.out.2).1).trans HB0.out.2⟩
            clear hb x1
            have x1 := fun o => Lib.cell_of_heap HB0.out.2 o
            go_wp2_with (go_at_call 21; refine (between_any _ _ _ _).mono ?_; rintro e w1 ⟨rfl, rfl⟩)
            go_ret
            exact ⟨rfl, HB0.out.1⟩
          | false =>
            by_cases h4 : i = 0
            · subst h4
              rw [if_neg (by decide)]
              have HB0 : Hid (Below w.heap.size w (w.alloc (.cells #[.int .i64 3, .bool false, .bool r, .bool false, .bool false, .int .i64 0, .int .i64 0, .int .i64 0, .int .i64 0, .string ⟨#[]⟩, .string tp, .string pl, .slice aa 0 ca, .slice ac 0 cc] 35)) ∧ (w.alloc (.cells #[.int .i64 3, .bool false, .bool r, .bool false, .bool false, .int .i64 0, .int .i64 0, .int .i64 0, .int .i64 0, .string ⟨#[]⟩, .string tp, .string pl, .slice aa 0 ca, .slice ac 0 cc] 35)).heap[w.heap.size]? = some (.cells #[.int .i64 3, .bool false, .bool r, .bool false, .bool false, .int .i64 0, .int .i64 0, .int .i64 0, .int .i64 0, .string ⟨#[]⟩, .string tp, .string pl, .slice aa 0 ca, .slice ac 0 cc] 35 (0, 0))) := ⟨(Below.refl _ _).alloc (Nat.le_refl _) _, Go.heap_alloc_new w _⟩
              go_enter Tryz.func25, Tryz.ntmps25
              go_upto_region 24 with (go_at_call 21; refine (between_any _ _ _ _).mono ?_; rintro e w1 ⟨rfl, rfl⟩)
              revert HB0
              generalize w.alloc (.cells #[.int .i64 3, .bool false, .bool r, .bool false, .bool false, .int .i64 0, .int .i64 0, .int .i64 0, .int .i64 0, .string ⟨#[]⟩, .string tp, .string pl, .slice aa 0 ca, .slice ac 0 cc] 35) = W0
              intro HB0
              have x1 := fun o => Lib.cell_of_heap HB0.out.2 o
              go_wp2_with fail
              refine (CT.out _).mono ?_
              rintro e w1 ⟨rfl, hb⟩
              have HB0 : Hid (Below w.heap.size w w1 ∧ w1.heap[w.heap.size]? = _) := ⟨below_step HB0.out.1 hb, (hb.block _ (Array.getElem?_eq_some_iff.1 HB0.out.2).1).trans HB0.out.2⟩
              clear hb x1
              have x1 := fun o => Lib.cell_of_heap HB0.out.2 o
              go_upto_region 33 with (go_at_call 21; refine (between_any _ _ _ _).mono ?_; rintro e w1 ⟨rfl, rfl⟩)
              go_wp2_with fail
              refine (HC.out _).mono ?_
              rintro e w1 ⟨rfl, hb⟩
              have HB0 : Hid (Below w.heap.size w w1 ∧ w1.heap[w.heap.size]? = _) := ⟨below_step HB0.out.1 hb, (hb.block _ (Array.getElem?_eq_some_iff.1 HB0.out.2).1).trans HB0.out.2⟩
              clear hb x1
              have x1 := fun o => Lib.cell_of_heap HB0.out.2 o
              clear HC
              go_wp2
              go_loopw [5] (fun x wr => x = .int .i64 0 ∧ Hid (Below w.heap.size w wr ∧ wr.heap[w.heap.size]? = some (.cells #[.int .i64 3, .bool false, .bool r, .bool false, .bool false, .int .i64 0, .int .i64 0, .int .i64 0, .int .i64 0, .string ⟨#[]⟩, .string tp, .string pl, .slice aa 0 ca, .slice ac 0 cc] 35 (0, 0)))) (fun _ _ => 0)
              case atStart => exact ⟨rfl, HB0⟩
              case round =>
                obtain ⟨rfl, HB0⟩ := hrel
                have x2 := fun o => Lib.cell_of_heap HB0.out.2 o
                go_wp2
                go_loopw [7] (fun x wr => x = .int .i64 0 ∧ Hid (Below w.heap.size w wr ∧ wr.heap[w.heap.size]? = some (.cells #[.int .i64 3, .bool false, .bool r, .bool false, .bool false, .int .i64 0, .int .i64 0, .int .i64 0, .int .i64 0, .string ⟨#[]⟩, .string tp, .string pl, .slice aa 0 ca, .slice ac 0 cc] 35 (0, 0)))) (fun _ _ => 0)
                case atStart => exact ⟨rfl, HB0⟩
                case round =>
                  obtain ⟨rfl, HB0⟩ := hrel
                  have x3 := fun o => Lib.cell_of_heap HB0.out.2 o
                  go_wp2
                  go_ret
                  exact ⟨rfl, HB0.out.1⟩
            · rw [if_pos (.inr h4)]
              have h4e : (i != 0) = true := by simp [h4]
              have HB0 : Hid (Below w.heap.size w (w.alloc (.cells #[.int .i64 3, .bool false, .bool r, .bool false, .bool false, .int .i64 0, .int .i64 i, .int .i64 0, .int .i64 0, .string ⟨#[]⟩, .string tp, .string pl, .slice aa 0 ca, .slice ac 0 cc] 35)) ∧ (w.alloc (.cells #[.int .i64 3, .bool false, .bool r, .bool false, .bool false, .int .i64 0, .int .i64 i, .int .i64 0, .int .i64 0, .string ⟨#[]⟩, .string tp, .string pl, .slice aa 0 ca, .slice ac 0 cc] 35)).heap[w.heap.size]? = some (.cells #[.int .i64 3, .bool false, .bool r, .bool false, .bool false, .int .i64 0, .int .i64 i, .int .i64 0, .int .i64 0, .string ⟨#[]⟩, .string tp, .string pl, .slice aa 0 ca, .slice ac 0 cc] 35 (0, 0))) := ⟨(Below.refl _ _).alloc (Nat.le_refl _) _, Go.heap_alloc_new w _⟩
              go_enter Tryz.func25, Tryz.ntmps25
              go_upto_region 24 with (go_at_call 21; refine (between_any _ _ _ _).mono ?_; rintro e w1 ⟨rfl, rfl⟩)
              revert HB0
              generalize w.alloc (.cells #[.int .i64 3, .bool false, .bool r, .bool false, .bool false, .int .i64 0, .int .i64 i, .int .i64 0, .int .i64 0, .string ⟨#[]⟩, .string tp, .string pl, .slice aa 0 ca, .slice ac 0 cc] 35) = W0
              intro HB0
              have x1 := fun o => Lib.cell_of_heap HB0.out.2 o
              go_wp2_with fail
              refine (CT.out _).mono ?_
              rintro e w1 ⟨rfl, hb⟩
              have HB0 : Hid (Below w.heap.size w w1 ∧ w1.heap[w.heap.size]? = _) := ⟨below_step HB0.out.1 hb, (hb.block _ (Array.getElem?_eq_some_iff.1 HB0.out.2).1).trans HB0.out.2⟩
              clear hb x1
              have x1 := fun o => Lib.cell_of_heap HB0.out.2 o
              go_wp2_with (go_at_call 21; refine (between_any _ _ _ _).mono ?_; rintro e w1 ⟨rfl, rfl⟩)
              go_ret
              exact ⟨rfl, HB0.out.1⟩
        · subst h3
          rw [if_pos rfl]
          have HC := hide (fun W => hasId_any 3 1 d r false false i 0 0 ⟨#[]⟩ tp pl aa ac 0 0 ca cc W)
          rw [show hasB 3 1 = true by decide] at HC
          by_cases h4 : i < 1 ∨ 65535 < i
          · rw [idE, if_pos h4]
            have HB0 : Hid (Below w.heap.size w (w.alloc (.cells #[.int .i64 3, .bool d, .bool r, .bool false, .bool false, .int .i64 1, .int .i64 i, .int .i64 0, .int .i64 0, .string ⟨#[]⟩, .string tp, .string pl, .slice aa 0 ca, .slice ac 0 cc] 35)) ∧ (w.alloc (.cells #[.int .i64 3, .bool d, .bool r, .bool false, .bool false, .int .i64 1, .int .i64 i, .int .i64 0, .int .i64 0, .string ⟨#[]⟩, .string tp, .string pl, .slice aa 0 ca, .slice ac 0 cc] 35)).heap[w.heap.size]? = some (.cells #[.int .i64 3, .bool d, .bool r, .bool false, .bool false, .int .i64 1, .int .i64 i, .int .i64 0, .int .i64 0, .string ⟨#[]⟩, .string tp, .string pl, .slice aa 0 ca, .slice ac 0 cc] 35 (0, 0))) := ⟨(Below.refl _ _).alloc (Nat.le_refl _) _, Go.heap_alloc_new w _⟩
            go_enter Tryz.func25, Tryz.ntmps25
            go_upto_region 24 with (go_at_call 21; refine (between_any _ _ _ _).mono ?_; rintro e w1 ⟨rfl, rfl⟩)
            revert HB0
            generalize w.alloc (.cells #[.int .i64 3, .bool d, .bool r, .bool false, .bool false, .int .i64 1, .int .i64 i, .int .i64 0, .int .i64 0, .string ⟨#[]⟩, .string tp, .string pl, .slice aa 0 ca, .slice ac 0 cc] 35) = W0
            intro HB0
            have x1 := fun o => Lib.cell_of_heap HB0.out.2 o
            go_wp2_with fail
            refine (CT.out _).mono ?_
            rintro e w1 ⟨rfl, hb⟩
            have HB0 : Hid (Below w.heap.size w w1 ∧ w1.heap[w.heap.size]? = _) := ⟨below_step HB0.out.1 hb, (hb.block _ (Array.getElem?_eq_some_iff.1 HB0.out.2).1).trans HB0.out.2⟩
            clear hb x1
            have x1 := fun o => Lib.cell_of_heap HB0.out.2 o
            go_upto_region 33 with (go_at_call 21; refine (between_any _ _ _ _).mono ?_; rintro e w1 ⟨rfl, rfl⟩)
            go_wp2_with fail
            refine (HC.out _).mono ?_
            rintro e w1 ⟨rfl, hb⟩
            have HB0 : Hid (Below w.heap.size w w1 ∧ w1.heap[w.heap.size]? = _) := ⟨below_step HB0.out.1 hb, (hb.block _ (Array.getElem?_eq_some_iff.1 HB0.out.2).1).trans HB0.out.2⟩
            clear hb x1
            have x1 := fun o => Lib.cell_of_heap HB0.out.2 o
            clear HC
            go_wp2_with (go_at_call 21; refine (between_no _ _ _ _ (by omega)).mono ?_; rintro e w1 ⟨rfl, rfl⟩)
            go_ret
            exact ⟨rfl, HB0.out.1⟩
          · rw [idE, if_neg h4]
            have HB0 : Hid (Below w.heap.size w (w.alloc (.cells #[.int .i64 3, .bool d, .bool r, .bool false, .bool false, .int .i64 1, .int .i64 i, .int .i64 0, .int .i64 0, .string ⟨#[]⟩, .string tp, .string pl, .slice aa 0 ca, .slice ac 0 cc] 35)) ∧ (w.alloc (.cells #[.int .i64 3, .bool d, .bool r, .bool false, .bool false, .int .i64 1, .int .i64 i, .int .i64 0, .int .i64 0, .string ⟨#[]⟩, .string tp, .string pl, .slice aa 0 ca, .slice ac 0 cc] 35)).heap[w.heap.size]? = some (.cells #[.int .i64 3, .bool d, .bool r, .bool false, .bool false, .int .i64 1, .int .i64 i, .int .i64 0, .int .i64 0, .string ⟨#[]⟩, .string tp, .string pl, .slice aa 0 ca, .slice ac 0 cc] 35 (0, 0))) := ⟨(Below.refl _ _).alloc (Nat.le_refl _) _, Go.heap_alloc_new w _⟩
            go_enter Tryz.func25, Tryz.ntmps25
            go_upto_region 24 with (go_at_call 21; refine (between_any _ _ _ _).mono ?_; rintro e w1 ⟨rfl, rfl⟩)
            revert HB0
            generalize w.alloc (.cells #[.int .i64 3, .bool d, .bool r, .bool false, .bool false, .int .i64 1, .int .i64 i, .int .i64 0, .int .i64 0, .string ⟨#[]⟩, .string tp, .string pl, .slice aa 0 ca, .slice ac 0 cc] 35) = W0
            intro HB0
            have x1 := fun o => Lib.cell_of_heap HB0.out.2 o
            go_wp2_with fail
            refine (CT.out _).mono ?_
            rintro e w1 ⟨rfl, hb⟩
            have HB0 : Hid (Below w.heap.size w w1 ∧ w1.heap[w.heap.size]? = _) := ⟨below_step HB0.out.1 hb, (hb.block _ (Array.getElem?_eq_some_iff.1 HB0.out.2).1).trans HB0.out.2⟩
            clear hb x1
            have x1 := fun o => Lib.cell_of_heap HB0.out.2 o
            go_upto_region 33 with (go_at_call 21; refine (between_any _ _ _ _).mono ?_; rintro e w1 ⟨rfl, rfl⟩)
            go_wp2_with fail
            refine (HC.out _).mono ?_
            rintro e w1 ⟨rfl, hb⟩
            have HB0 : Hid (Below w.heap.size w w1 ∧ w1.heap[w.heap.size]? = _) := ⟨below_step HB0.out.1 hb, (hb.block _ (Array.getElem?_eq_some_iff.1 HB0.out.2).1).trans HB0.out.2⟩
            clear hb x1
            have x1 := fun o => Lib.cell_of_heap HB0.out.2 o
            clear HC
            go_wp2_with (go_at_call 21; refine (between_yes _ _ _ _ (by omega)).mono ?_; rintro e w1 ⟨rfl, rfl⟩)
            go_loopw [5] (fun x wr => x = .int .i64 0 ∧ Hid (Below w.heap.size w wr ∧ wr.heap[w.heap.size]? = some (.cells #[.int .i64 3, .bool d, .bool r, .bool false, .bool false, .int .i64 1, .int .i64 i, .int .i64 0, .int .i64 0, .string ⟨#[]⟩, .string tp, .string pl, .slice aa 0 ca, .slice ac 0 cc] 35 (0, 0)))) (fun _ _ => 0)
            case atStart => exact ⟨rfl, HB0⟩
            case round =>
              obtain ⟨rfl, HB0⟩ := hrel
              have x2 := fun o => Lib.cell_of_heap HB0.out.2 o
              go_wp2
              go_loopw [7] (fun x wr => x = .int .i64 0 ∧ Hid (Below w.heap.size w wr ∧ wr.heap[w.heap.size]? = some (.cells #[.int .i64 3, .bool d, .bool r, .bool false, .bool false, .int .i64 1, .int .i64 i, .int .i64 0, .int .i64 0, .string ⟨#[]⟩, .string tp, .string pl, .slice aa 0 ca, .slice ac 0 cc] 35 (0, 0)))) (fun _ _ => 0)
              case atStart => exact ⟨rfl, HB0⟩
              case round =>
                obtain ⟨rfl, HB0⟩ := hrel
                have x3 := fun o => Lib.cell_of_heap HB0.out.2 o
                go_wp2
                go_ret
                exact ⟨rfl, HB0.out.1⟩
      · rw [if_pos h3]
        have HB0 : Hid (Below w.heap.size w (w.alloc (.cells #[.int .i64 3, .bool d, .bool r, .bool false, .bool false, .int .i64 q, .int .i64 i, .int .i64 0, .int .i64 0, .string ⟨#[]⟩, .string tp, .string pl, .slice aa 0 ca, .slice ac 0 cc] 35)) ∧ (w.alloc (.cells #[.int .i64 3, .bool d, .bool r, .bool false, .bool false, .int .i64 q, .int .i64 i, .int .i64 0, .int .i64 0, .string ⟨#[]⟩, .string tp, .string pl, .slice aa 0 ca, .slice ac 0 cc] 35)).heap[w.heap.size]? = some (.cells #[.int .i64 3, .bool d, .bool r, .bool false, .bool false, .int .i64 q, .int .i64 i, .int .i64 0, .int .i64 0, .string ⟨#[]⟩, .string tp, .string pl, .slice aa 0 ca, .slice ac 0 cc] 35 (0, 0))) := ⟨(Below.refl _ _).alloc (Nat.le_refl _) _, Go.heap_alloc_new w _⟩
        go_enter Tryz.func25, Tryz.ntmps25
        go_upto_region 24 with (go_at_call 21; refine (between_any _ _ _ _).mono ?_; rintro e w1 ⟨rfl, rfl⟩)
        revert HB0
        generalize w.alloc (.cells #[.int .i64 3, .bool d, .bool r, .bool false, .bool false, .int .i64 q, .int .i64 i, .int .i64 0, .int .i64 0, .string ⟨#[]⟩, .string tp, .string pl, .slice aa 0 ca, .slice ac 0 cc] 35) = W0
        intro HB0
        have x1 := fun o => Lib.cell_of_heap HB0.out.2 o
        go_wp2_with fail
        refine (CT.out _).mono ?_
        rintro e w1 ⟨rfl, hb⟩
        have HB0 : Hid (Below w.heap.size w w1 ∧ w1.heap[w.heap.size]? = _) := ⟨below_step HB0.out.1 hb, (hb.block _ (Array.getElem?_eq_some_iff.1 HB0.out.2).1).trans HB0.out.2⟩
        clear hb x1
        have x1 := fun o => Lib.cell_of_heap HB0.out.2 o
        go_wp2_with (go_at_call 21; refine (between_no _ _ _ _ (by omega)).mono ?_; rintro e w1 ⟨rfl, rfl⟩)
        go_ret
        exact ⟨rfl, HB0.out.1⟩
end Go.Proofs.YtnjdpibgfbbkcabGreatDoor
