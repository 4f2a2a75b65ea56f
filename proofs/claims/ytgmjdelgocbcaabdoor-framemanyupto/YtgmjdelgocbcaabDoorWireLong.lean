/-
  wire.Long: what it answers, for every number.
-/
import Derived.Test.YtgmjdelgocbcaabDoorWireNumber
import Derived.Deep.AppendLies
import Derived.WalkSpells
import Derived.Laws.OwnMore
namespace Go.Proofs.YtgmjdelgocbcaabDoor
open Go.RowKit

theorem info_u8 : (Tryd.prog.info? 5).map (fun i => (i.zero, i.size, i.bytes)) = some (some (.int .u8 0), 1, 1) := by kernel_rfl

/-- string(v) of a slice of bytes of the call's own -/
theorem conv_own (w : World) (B : Nat) (v : Value) (xs : List Int) (hpos : xs ≠ []) (h : w.ownsRow B 5 1 v xs.length (xs.map (Value.int .u8))) :
    (convert 43 9 v).run Tryd.prog w = .ok (.string (strOfNums xs)) w := by
  have hp : 0 < xs.length := List.length_pos_iff.2 hpos
  obtain ⟨g, cap, rfl, _, _⟩ := h.form hp
  refine run_convert_bytes_arg (P := Tryd.prog) w 43 5 Tryd.underlying43 Tryd.underlying5 g 0 xs.length cap xs rfl ?_ 9 Tryd.underlying9
  intro i hi
  rw [Nat.zero_add, h.cellAt i (by omega)]
  simp [List.getElem?_eq_getElem hi]

set_option maxHeartbeats 1000000 in
set_option maxRecDepth 100000 in
theorem long_ok (n : Nat) (w : World) (h : n < 268435456) :
    Calls Tryd.prog 20 #[.int .i64 n] w fun e w' => e = .returned (.tuple #[.string (strOfNums (longL 3 n)), .int .i64 0]) ∧ Below w.heap.size w w' := by
  have hn : decide ((n : Int) < 0) = false := by simp
  have hn2 : (n : Int) ≤ 268435455 := by omega
  have hn3 : decide (268435455 < (n : Int)) = false := by simp; omega
  have HN : Hid (n < 268435456) := h
  clear h
  obtain ⟨i0, hi, hz0, hz1, hz2⟩ := info_parts info_u8
  go_enter Tryd.func20, Tryd.ntmps20
  go_wp2
  go_loopw [0, 4] (fun m v wr => ∃ (k : Nat) (q : Nat) (l : List Int), k ≤ 3 ∧ l.length = k ∧ q < 128 ^ (4 - k) ∧ m = .int .i64 q ∧ l ++ longL (3 - k) q = longL 3 n ∧ wr.ownsRow w.heap.size 5 1 v l.length (l.map (Value.int .u8)) ∧ Below w.heap.size w wr)
    (fun m _ _ => (intOf m).toNat)
  case atStart => exact ⟨0, n, [], by omega, rfl, HN.out, rfl, rfl, World.ownsRow_nil _ _ _ _, Below.refl _ _⟩
  case round =>
    obtain ⟨k, q, l, hk, hl, hq, rfl, hll, hown, hb⟩ := hrel
    have hq2 : q < 268435456 := Nat.lt_of_lt_of_le hq (Nat.pow_le_pow_right (by omega) (show 4 - k ≤ 4 by omega))
    have hq3 : (q : Int) ≤ 268435455 := by omega
    clear hq2
    have Hq : Hid (q < 128 ^ (4 - k)) := hq
    have HL : Hid (l ++ longL (3 - k) q = longL 3 n) := hll
    have Hl : Hid (l.length = k) := hl
    clear hq hll hl
    by_cases hlt : 128 ≤ q
    · go_wp2_with (at_builtin; refine wpList_append_own _ rfl _ _ 43 rfl w.heap.size 5 i0 (.int .u8 0) 1 1 Tryd.underlying43 hi hz0 hz1 hz2 rfl (by decide) _ _ _ rfl (hown.alloc _) ⟨wr.heap.size, 0, none⟩ 1 1 [.int .u8 ((q : Int) % 128 + 128)] rfl rfl ?c1 ?c2 ?c3 ?c4 ?c5 ?_)
      case c1 => exact cell_one_new _ _ _
      case c2 => intro u hu; simp at hu; subst hu; rfl
      case c3 => rw [Hl.out]; unfold maxLen; omega
      case c4 => rw [Hl.out]; omega
      case c5 => have := hb.size; simp; omega
      intro v' w1 hown' hgrow _
      have hb1 : Below w.heap.size w w1 := (hb.alloc hb.size _).grown hgrow (by have := hb.size; simp; omega) (fun g hg => (hown.lt g hg).1)
      have hst := long_step hk hlt Hq.out l
      have HS : Hid (k + 1 ≤ 3 ∧ q / 128 < 128 ^ (4 - (k + 1)) ∧ (l ++ [(q : Int) % 128 + 128]) ++ longL (3 - (k + 1)) (q / 128) = l ++ longL (3 - k) q) := hst
      clear hst hown hgrow
      go_wp2
      go_roundw
      case rel => exact ⟨k + 1, q / 128, l ++ [(q : Int) % 128 + 128], HS.out.1, by simp [Hl.out], HS.out.2.1, by go_num, HS.out.2.2.trans HL.out, by simpa using hown', hb1⟩
      case measure => simp [intOf]; omega
    · go_wp2_with (at_builtin; refine wpList_append_own _ rfl _ _ 43 rfl w.heap.size 5 i0 (.int .u8 0) 1 1 Tryd.underlying43 hi hz0 hz1 hz2 rfl (by decide) _ _ _ rfl (hown.alloc _) ⟨wr.heap.size, 0, none⟩ 1 1 [.int .u8 (q : Int)] rfl rfl ?d1 ?d2 ?d3 ?d4 ?d5 ?_)
      case d1 => exact cell_one_new _ _ _
      case d2 => intro u hu; simp at hu; subst hu; rfl
      case d3 => rw [Hl.out]; unfold maxLen; omega
      case d4 => rw [Hl.out]; omega
      case d5 => have := hb.size; simp; omega
      intro v' w1 hown' hgrow _
      have hb1 : Below w.heap.size w w1 := (hb.alloc hb.size _).grown hgrow (by have := hb.size; simp; omega) (fun g hg => (hown.lt g hg).1)
      have hcv := conv_own w1 w.heap.size v' (l ++ [(q : Int)]) (by simp) (by simpa using hown')
      have HE : Hid (l ++ [(q : Int)] = longL 3 n) := by rw [← long_last (k := k) (show q < 128 by omega)]; exact HL.out
      clear hown' hown hgrow
      go_wp2
      go_ret2
      exact ⟨by rw [HE.out]; rfl, hb1⟩

theorem long_no (n : Int) (w : World) (h : n < 0 ∨ 268435455 < n) :
    Calls Tryd.prog 20 #[.int .i64 n] w fun e w' => e = .returned (.tuple #[.string ⟨#[]⟩, .int .i64 3]) ∧ w' = w := by
  by_cases hn : n < 0
  · go_enter Tryd.func20, Tryd.ntmps20
    go_wp2
    go_ret2
    exact ⟨rfl, rfl⟩
  · have h1 : decide (n < 0) = false := by simp; omega
    have h2 : 268435455 < n := by omega
    go_enter Tryd.func20, Tryd.ntmps20
    go_wp2
    go_ret2
    exact ⟨rfl, rfl⟩
end Go.Proofs.YtgmjdelgocbcaabDoor
