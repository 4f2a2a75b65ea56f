/-
  The reference's PacketOf: what it answers (bytes of no great size).
-/
import Derived.Test.YtnjdpibgfbbkcabGreatDoorRefPkOf1
import Derived.Test.YtnjdpibgfbbkcabGreatDoorRefPkOf3
import Derived.Test.YtnjdpibgfbbkcabGreatDoorRefPkOf31
import Derived.Test.YtnjdpibgfbbkcabGreatDoorRefPkOf8
import Derived.Test.YtnjdpibgfbbkcabGreatDoorRefPkOf9
import Derived.Test.YtnjdpibgfbbkcabGreatDoorRefPkOf10
import Derived.Test.YtnjdpibgfbbkcabGreatDoorRefPkOf11
import Derived.Test.YtnjdpibgfbbkcabGreatDoorRefPkOf13
namespace Go.Proofs.YtnjdpibgfbbkcabGreatDoor
open Go.RowKit Go.PlainAid Go.Deep

set_option maxHeartbeats 8000000 in
set_option maxRecDepth 100000 in
theorem po_none (s : ByteArray) (w : World) (hs : s.size ≤ 1048576) (h : lenOk s = false ∨ kindB (bt s 0 / 16) = false) :
    Calls Tryz.prog 13 #[.string s] w (OfPost s w) := by
  have HD := hide (told_none h (by omega))
  have hs' : s.size ≤ maxLen := by unfold maxLen; omega
  have HZ : Hid (PAt w.heap.size zeroPk (.slice none 0 0) (.slice none 0 0) (w.alloc (.cells #[.int .i64 0, .bool false, .bool false, .bool false, .bool false, .int .i64 0, .int .i64 0, .int .i64 0, .int .i64 0, .string ⟨#[]⟩, .string ⟨#[]⟩, .string ⟨#[]⟩, .slice none 0 0, .slice none 0 0] 35))) := Go.heap_alloc_new w _
  have HB := hide ((Below.refl w.heap.size w).alloc (Nat.le_refl _) (.cells #[.int .i64 0, .bool false, .bool false, .bool false, .bool false, .int .i64 0, .int .i64 0, .int .i64 0, .int .i64 0, .string ⟨#[]⟩, .string ⟨#[]⟩, .string ⟨#[]⟩, .slice none 0 0, .slice none 0 0] 35))
  have hsz : w.heap.size ≤ (w.alloc (.cells #[.int .i64 0, .bool false, .bool false, .bool false, .bool false, .int .i64 0, .int .i64 0, .int .i64 0, .int .i64 0, .string ⟨#[]⟩, .string ⟨#[]⟩, .string ⟨#[]⟩, .slice none 0 0, .slice none 0 0] 35)).heap.size := by simp
  have HC : Hid (∀ W, Calls Tryz.prog 12 #[.string s, .int .i64 1] W fun e w' => e = .returned (.tuple #[.int .i64 (glR s 1).1, .int .i64 (glR s 1).2.1, .int .i64 (glR s 1).2.2]) ∧ w' = W) := fun W => getLongOf_any s 1 W hs'
  have HG : Hid ((glR s 1).2.2 = 0 → ∃ n u : Nat, (glR s 1).1 = n ∧ (glR s 1).2.1 = u ∧ n ≤ 268435455 ∧ u ≤ 4) := fun h0 => by
    unfold glR at h0 ⊢
    split at h0
    · simp at h0
    · rename_i h1
      rw [if_neg h1]
      have a1 := glGo_ok s 1 4 0 0 (by decide) h0
      have a2 := glGo_le s 1 h0
      show ∃ n u : Nat, (glGo s 1 4 0 0).1 = n ∧ (glGo s 1 4 0 0).2.1 = u ∧ n ≤ 268435455 ∧ u ≤ 4
      exact ⟨(glGo s 1 4 0 0).1.toNat, (glGo s 1 4 0 0).2.1.toNat, by omega, by omega, by omega, by omega⟩
  have hL : lenOk s = ((glR s 1).2.2 == 0 && (glR s 1).1 == (s.size : Int) - 1 - (glR s 1).2.1) := rfl
  rw [hL] at h
  clear hL
  revert h HC HG
  generalize glR s 1 = g
  obtain ⟨v, u, e⟩ := g
  simp only
  intro h HC HG
  rcases Nat.eq_zero_or_pos s.size with h0 | hpos
  · have he : s.toList.isEmpty = true := by
      have x : s.data.toList.length = s.size := by simp
      rw [ByteArray.toList_eq, List.isEmpty_iff, ← List.length_eq_zero_iff, x]; exact h0
    go_enter Tryz.func13, Tryz.ntmps13
    go_upto_region 1 with fail
    revert HZ HB hsz
    generalize w.alloc (.cells #[.int .i64 0, .bool false, .bool false, .bool false, .bool false, .int .i64 0, .int .i64 0, .int .i64 0, .int .i64 0, .string ⟨#[]⟩, .string ⟨#[]⟩, .string ⟨#[]⟩, .slice none 0 0, .slice none 0 0] 35) = W0
    intro HZ HB hsz
    have z1 := HZ.out.cell
    have z2 := HZ.out.frozen
    go_wp2
    exact bodyPost_ret (v := .tuple #[pkV zeroPk none 0 none 0, .int .i64 1]) (by simp [results, Tryz.results13, go_sem, pkV, zeroPk, z1, World.cell?_setCell_same]) rfl (OfPost.mk HD.out.2 HD.out.1 rfl (po_zero HB.out (by omega) (by repeat (first | refine Kx.trans ?_ (Kx.set _ _ _ _ _) | exact Kx.refl _ _ _))))
  · have hse := str_some hpos
    have hix := get_bt s 0 hpos
    have hb0 := bt_nonneg s 0
    have hbl := bt_le s 0
    revert h hix hb0 hbl
    generalize bt s 0 = b
    intro h hix hb0 hbl
    by_cases he : e = 0
    · obtain ⟨N, U, hN, hU, hN1, hU1⟩ := HG.out he
      subst he hN hU
      have hU1' : (U : Int) ≤ 4 := by omega
      have hN1' : (N : Int) ≤ 268435455 := by omega
      by_cases hn : 1 + (U : Int) + (N : Int) = s.size
      · have hne : ((1 + (U : Int) + (N : Int)) != (s.size : Int)) = false := by simp; omega
        have hk : kindB (b / 16) = false := by
          rcases h with h | h
          · exfalso
            simp only [beq_self_eq_true, Bool.true_and, beq_eq_false_iff_ne] at h
            omega
          · exact h
        have hk0 : ¬ (1 ≤ b / 16 ∧ b / 16 ≤ 4 ∨ 8 ≤ b / 16 ∧ b / 16 ≤ 14) := by simpa [kindB] using hk
        clear h hk hN1 hU1 hn
        go_enter Tryz.func13, Tryz.ntmps13
        go_upto_region 1 with fail
        revert HZ HB hsz
        generalize w.alloc (.cells #[.int .i64 0, .bool false, .bool false, .bool false, .bool false, .int .i64 0, .int .i64 0, .int .i64 0, .int .i64 0, .string ⟨#[]⟩, .string ⟨#[]⟩, .string ⟨#[]⟩, .slice none 0 0, .slice none 0 0] 35) = W0
        intro HZ HB hsz
        have z1 := HZ.out.cell
        have z2 := HZ.out.frozen
        go_wp2_with (first | (go_at_call 12; refine (HC.out _).mono ?_; rintro x w' ⟨rfl, rfl⟩) | (go_at_call 21; refine (between_no _ _ _ _ (by omega)).mono ?_; rintro x w' ⟨rfl, rfl⟩))
        exact bodyPost_ret (v := .tuple #[pkV zeroPk none 0 none 0, .int .i64 1]) (by simp [results, Tryz.results13, go_sem, pkV, zeroPk, z1, World.cell?_setCell_same]) rfl (OfPost.mk HD.out.2 HD.out.1 rfl (po_zero HB.out (by omega) (by repeat (first | refine Kx.trans ?_ (Kx.set _ _ _ _ _) | exact Kx.refl _ _ _))))
      · have hne : ((1 + (U : Int) + (N : Int)) != (s.size : Int)) = true := by simp; omega
        clear h hN1 hU1 hn
        go_enter Tryz.func13, Tryz.ntmps13
        go_upto_region 1 with fail
        revert HZ HB hsz
        generalize w.alloc (.cells #[.int .i64 0, .bool false, .bool false, .bool false, .bool false, .int .i64 0, .int .i64 0, .int .i64 0, .int .i64 0, .string ⟨#[]⟩, .string ⟨#[]⟩, .string ⟨#[]⟩, .slice none 0 0, .slice none 0 0] 35) = W0
        intro HZ HB hsz
        have z1 := HZ.out.cell
        have z2 := HZ.out.frozen
        go_wp2_with (go_at_call 12; refine (HC.out _).mono ?_; rintro x w' ⟨rfl, rfl⟩)
        exact bodyPost_ret (v := .tuple #[pkV zeroPk none 0 none 0, .int .i64 1]) (by simp [results, Tryz.results13, go_sem, pkV, zeroPk, z1, World.cell?_setCell_same]) rfl (OfPost.mk HD.out.2 HD.out.1 rfl (po_zero HB.out (by omega) (by repeat (first | refine Kx.trans ?_ (Kx.set _ _ _ _ _) | exact Kx.refl _ _ _))))
    · have he1 : (e != 0) = true := by simp [he]
      clear h he
      go_enter Tryz.func13, Tryz.ntmps13
      go_upto_region 1 with fail
      revert HZ HB hsz
      generalize w.alloc (.cells #[.int .i64 0, .bool false, .bool false, .bool false, .bool false, .int .i64 0, .int .i64 0, .int .i64 0, .int .i64 0, .string ⟨#[]⟩, .string ⟨#[]⟩, .string ⟨#[]⟩, .slice none 0 0, .slice none 0 0] 35) = W0
      intro HZ HB hsz
      have z1 := HZ.out.cell
      have z2 := HZ.out.frozen
      go_wp2_with (go_at_call 12; refine (HC.out _).mono ?_; rintro x w' ⟨rfl, rfl⟩)
      exact bodyPost_ret (v := .tuple #[pkV zeroPk none 0 none 0, .int .i64 1]) (by simp [results, Tryz.results13, go_sem, pkV, zeroPk, z1, World.cell?_setCell_same]) rfl (OfPost.mk HD.out.2 HD.out.1 rfl (po_zero HB.out (by omega) (by repeat (first | refine Kx.trans ?_ (Kx.set _ _ _ _ _) | exact Kx.refl _ _ _))))

theorem pof_any (s : ByteArray) (w : World) (hs : s.size ≤ 1048576) : Calls Tryz.prog 13 #[.string s] w (OfPost s w) := by
  cases hl : lenOk s with
  | false => exact po_none s w hs (.inl hl)
  | true =>
    cases hk : kindB (bt s 0 / 16) with
    | false => exact po_none s w hs (.inr hk)
    | true =>
      rcases kinds hk with h | h | h | h | h | h | h | h | h | h | h
      · exact po_1 s w hs hl h
      · exact po_2 s w hs hl h
      · have h0 := bt_nonneg s 0
        by_cases q0 : bt s 0 % 16 / 2 % 4 = 0
        · exact po_30 s w hs hl h q0
        · by_cases q1 : bt s 0 % 16 / 2 % 4 = 1
          · exact po_31 s w hs hl h q1
          · exact po_3no s w hs hl h (by omega)
      · exact po_4 s w hs hl h
      · exact po_8 s w hs hl h
      · exact po_9 s w hs hl h
      · exact po_10 s w hs hl h
      · exact po_11 s w hs hl h
      · exact po_12 s w hs hl h
      · exact po_13 s w hs hl h
      · exact po_14 s w hs hl h
end Go.Proofs.YtnjdpibgfbbkcabGreatDoor
