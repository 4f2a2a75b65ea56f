/-
  The walk of dragomanlaw.WireTells: it answers true, whatever it is handed.
-/
import Derived.Test.YtaohmbjiljgibaaWireAny
import Derived.Deep.DeepCutAuto
namespace Go.Proofs.Ytaohmbjiljgibaa
open Go.RowKit

set_option maxHeartbeats 2000000 in
set_option maxRecDepth 100000 in
theorem wireTells_walk (s : ByteArray) (a b n : Int) (t : ByteArray) (hs : s.size ≤ maxLen) (w : World) :
    Calls Try.prog 3 #[.string s, .int .i64 a, .int .i64 b, .int .i64 n, .string t] w fun e w' => e = .returned (.bool true) ∧ Below w.heap.size w w' := by
  go_enter Try.func3, Try.ntmps3
  go_wp2_with fail
  refine (number_any _ _ _).mono ?_
  rintro e w1 ⟨rfl, hb1⟩
  go_wp2_with fail
  refine (get_any _ _ _ _ hs).mono ?_
  rintro e w' ⟨rfl, rfl⟩
  go_wp2_with fail
  refine (long_any _ _).mono ?_
  rintro e w2 ⟨rfl, hb2⟩
  go_wp2_with fail
  refine (getLong_any _ _ _ hs).mono ?_
  rintro e w' ⟨rfl, rfl⟩
  go_wp2_with fail
  refine (text_any _ _).mono ?_
  rintro e w3 ⟨rfl, hb3⟩
  go_wp2_with fail
  refine (getText_any _ _ _ hs).mono ?_
  rintro e w4 ⟨rfl, hb4⟩
  go_wp2_with fail
  refine (numberErr_any _ _ _).mono ?_
  rintro e w' ⟨rfl, rfl⟩
  have hB := hide (below_step (below_step (below_step hb1 hb2) hb3) hb4)
  clear hb1 hb2 hb3 hb4
  go_upto_if 80 with fail
  go_cut [26] (fun x wr => x = .string (numS n b) ∧ Below w.heap.size w wr)
  case first =>
    by_cases hu : numE n b = 0
    · have hu1 : (numE n b == 0) = true := by simp [hu]
      have HU := hide hu
      clear hu
      go_wp2_with fail
      refine (numberOf_any _ _ _ HU.out).mono ?_
      rintro e w5 ⟨rfl, hb5⟩
      go_wp2_with fail
      go_meet
      case rel => exact ⟨rfl, below_step hB.out hb5⟩
    · have hu1 : (numE n b == 0) = false := by simp [hu]
      have HU := hide hu
      clear hu
      go_wp2_with fail
      go_meet
      case rel => exact ⟨by rw [numS_no HU.out], hB.out⟩
  case rest =>
    obtain ⟨rfl, hB2⟩ := hcut
    clear hB
    go_upto_region 12 with fail
    go_cut [89] (fun x wr => x = .bool (decide (n < 0 ∨ 268435455 < n)) ∧ Below w.heap.size w wr)
    case first =>
      by_cases hn : n < 0
      · go_wp2_with fail
        go_meet
        case rel => exact ⟨by simp [hn], hB2⟩
      · have hn1 : decide (n < 0) = false := by simp; omega
        go_wp2_with fail
        go_meet
        case rel => exact ⟨congrArg Value.bool (by rw [decide_eq_decide]; omega), hB2⟩
    case rest =>
      obtain ⟨rfl, hB3⟩ := hcut
      clear hB2
      go_upto_if 89 with fail
      go_cut [27, 29] (fun x y wr => x = .string (longS n) ∧ y = .int .i64 (longE n) ∧ Below w.heap.size w wr)
      case first =>
        by_cases hn : n < 0 ∨ 268435455 < n
        · have hn1 : decide (n < 0 ∨ 268435455 < n) = true := by simp only [decide_eq_true_eq]; exact hn
          have HN := hide hn
          clear hn
          go_wp2_with fail
          go_meet
          case rel => exact ⟨by rw [show longS n = _ from if_pos HN.out], by rw [show longE n = _ from if_pos HN.out], hB3⟩
        · have hn1 : decide (n < 0 ∨ 268435455 < n) = false := by simp only [decide_eq_false_iff_not]; exact hn
          have HN := hide hn
          clear hn
          go_wp2_with fail
          refine (longOf_yes _ _ (by have := HN.out; omega) (by have := HN.out; omega)).mono ?_
          rintro e w6 ⟨rfl, hb6⟩
          go_wp2_with fail
          go_meet
          case rel => exact ⟨rfl, by rw [show longE n = _ from if_neg HN.out], below_step hB3 hb6⟩
      case rest =>
        obtain ⟨rfl, rfl, hB4⟩ := hcut
        clear hB3
        go_upto_if 94 with fail
        go_cut [28, 30] (fun x y wr => x = .string (txtS t) ∧ y = .int .i64 (txtE t) ∧ Below w.heap.size w wr)
        case first =>
          by_cases hn : 65535 < (t.size : Int)
          · have HN := hide hn
            go_wp2_with fail
            go_meet
            case rel => exact ⟨by rw [show txtS t = _ from if_pos HN.out], by rw [show txtE t = _ from if_pos HN.out], hB4⟩
          · have HN := hide hn
            go_wp2_with fail
            refine (textOf_yes _ _ (by omega)).mono ?_
            rintro e w6 ⟨rfl, hb6⟩
            go_wp2_with fail
            go_meet
            case rel => exact ⟨rfl, by rw [show txtE t = _ from if_neg (by omega)], below_step hB4 hb6⟩
        case rest =>
          obtain ⟨rfl, rfl, hB5⟩ := hcut
          clear hB4
          go_wp2_with fail
          refine (getOf_any _ _ _ _ hs).mono ?_
          rintro e w' ⟨rfl, rfl⟩
          go_wp2_with fail
          refine (getLongOf_any _ _ _ hs).mono ?_
          rintro e w' ⟨rfl, rfl⟩
          go_wp2_with fail
          refine (getTextOf_any _ _ _ hs).mono ?_
          rintro e w' ⟨rfl, rfl⟩
          go_wp2_with fail
          refine (wireBegun_yes _).mono ?_
          rintro e w8 ⟨rfl, hb8⟩
          go_wp2
          go_ret
          exact ⟨rfl, below_step hB5 hb8⟩
end Go.Proofs.Ytaohmbjiljgibaa
