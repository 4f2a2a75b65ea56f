/-
  packet.withoutNamed and isBare: what they answer.
-/
import Derived.Test.YtgmjdelgocbcaabDoorPacketBase
import Derived.Deep.DeepCutAuto
namespace Go.Proofs.YtgmjdelgocbcaabDoor
open Go.RowKit Go.PlainAid

set_option maxHeartbeats 2000000 in
theorem isBare_any (p : Pk) (aa ac : Option Addr) (ca cc : Nat) (w : World) :
    Calls Tryd.prog 40 #[pkV p aa ca ac cc] w fun e w' => e = .returned (.bool (bareB p)) ∧ Below w.heap.size w w' := by
  obtain ⟨k, d, r, c, s, q, i, kp, cd, cl, tp, pl, sa, cs⟩ := p
  simp only [pkV, bareB]
  generalize sa.length = n1
  generalize cs.length = n2
  generalize g1 : (d || r || c || s) = b1
  generalize g2 : (q != 0 || i != 0 || kp != 0 || cd != 0) = b2
  generalize g3 : (!decide (cl = ⟨#[]⟩) || !decide (tp = ⟨#[]⟩) || !decide (pl = ⟨#[]⟩)) = b3
  generalize g4 : (decide (0 < n1) || decide (0 < n2)) = b4
  have G1 := hide g1
  have G2 := hide g2
  have G3 := hide g3
  have G4 := hide g4
  clear g1 g2 g3 g4
  go_enter Tryd.func40, Tryd.ntmps40
  go_upto_region 1 with fail
  go_cut [3] (fun x wr => x = .bool b1 ∧ wr = w.alloc (.cells #[.int .i64 k, .bool d, .bool r, .bool c, .bool s, .int .i64 q, .int .i64 i, .int .i64 kp, .int .i64 cd, .string cl, .string tp, .string pl, .slice aa n1 ca, .slice ac n2 cc] 25))
  case first =>
    cases d <;> cases r <;> cases c <;> cases s
    all_goals
      go_wp2_with fail
      go_meet
      case rel => exact ⟨congrArg Value.bool G1.out, rfl⟩
  case rest =>
    obtain ⟨rfl, rfl⟩ := hcut
    go_upto_region 2 with fail
    go_cut [4] (fun x wr => x = .bool b2 ∧ wr = w.alloc (.cells #[.int .i64 k, .bool d, .bool r, .bool c, .bool s, .int .i64 q, .int .i64 i, .int .i64 kp, .int .i64 cd, .string cl, .string tp, .string pl, .slice aa n1 ca, .slice ac n2 cc] 25))
    case first =>
      by_cases h1 : q = 0
      · subst h1
        by_cases h2 : i = 0
        · subst h2
          by_cases h3 : kp = 0
          · subst h3
            go_wp2_with fail
            go_meet
            case rel => exact ⟨by rw [← G2.out]; simp [*], rfl⟩
          · have e3 : (kp != 0) = true := by simp [h3]
            clear h3
            go_wp2_with fail
            go_meet
            case rel => exact ⟨by rw [← G2.out]; simp [*], rfl⟩
        · have e2 : (i != 0) = true := by simp [h2]
          clear h2
          go_wp2_with fail
          go_meet
          case rel => exact ⟨by rw [← G2.out]; simp [*], rfl⟩
      · have e1 : (q != 0) = true := by simp [h1]
        clear h1
        go_wp2_with fail
        go_meet
        case rel => exact ⟨by rw [← G2.out]; simp [*], rfl⟩
    case rest =>
      obtain ⟨rfl, rfl⟩ := hcut
      go_upto_region 3 with fail
      go_cut [5] (fun x wr => x = .bool b3 ∧ wr = w.alloc (.cells #[.int .i64 k, .bool d, .bool r, .bool c, .bool s, .int .i64 q, .int .i64 i, .int .i64 kp, .int .i64 cd, .string cl, .string tp, .string pl, .slice aa n1 ca, .slice ac n2 cc] 25))
      case first =>
        by_cases h1 : cl = ⟨#[]⟩
        · subst h1
          by_cases h2 : tp = ⟨#[]⟩
          · subst h2
            by_cases h3 : pl = ⟨#[]⟩
            · subst h3
              go_wp2_with fail
              go_meet
              case rel => exact ⟨by rw [← G3.out]; simp, rfl⟩
            · have e3 := txt_no (l := []) h3
              have H3 := hide h3
              clear h3
              go_wp2_with fail
              go_meet
              case rel => exact ⟨by rw [← G3.out]; simp [H3.out], rfl⟩
          · have e2 := txt_no (l := []) h2
            have H2 := hide h2
            clear h2
            go_wp2_with fail
            go_meet
            case rel => exact ⟨by rw [← G3.out]; simp [H2.out], rfl⟩
        · have e1 := txt_no (l := []) h1
          have H1 := hide h1
          clear h1
          go_wp2_with fail
          go_meet
          case rel => exact ⟨by rw [← G3.out]; simp [H1.out], rfl⟩
      case rest =>
        obtain ⟨rfl, rfl⟩ := hcut
        go_upto_region 4 with fail
        go_cut [6] (fun x wr => x = .bool b4 ∧ wr = w.alloc (.cells #[.int .i64 k, .bool d, .bool r, .bool c, .bool s, .int .i64 q, .int .i64 i, .int .i64 kp, .int .i64 cd, .string cl, .string tp, .string pl, .slice aa n1 ca, .slice ac n2 cc] 25))
        case first =>
          by_cases h1 : 0 < n1
          · have e1 : decide (0 < n1) = true := by simp [h1]
            clear h1
            go_wp2_with fail
            go_meet
            case rel => exact ⟨by rw [← G4.out]; simp [e1], rfl⟩
          · have e1 : decide (0 < n1) = false := by simp; omega
            clear h1
            go_wp2_with fail
            go_meet
            case rel => exact ⟨by rw [← G4.out]; simp [e1], rfl⟩
        case rest =>
          obtain ⟨rfl, rfl⟩ := hcut
          cases b1 <;> cases b2 <;> cases b3 <;> cases b4
          all_goals
            go_wp2
            go_ret
            exact ⟨rfl, (Below.refl _ _).alloc (Nat.le_refl _) _⟩
end Go.Proofs.YtgmjdelgocbcaabDoor
