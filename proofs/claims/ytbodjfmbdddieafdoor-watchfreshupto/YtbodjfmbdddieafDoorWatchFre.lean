/-
  watch.Fresh: what it answers.
-/
import Derived.Test.YtbodjfmbdddieafDoorWatchSmall
namespace Go.Proofs.YtbodjfmbdddieafDoor
open Go.RowKit Go.PlainAid

set_option maxHeartbeats 2000000 in
theorem fresh_same (a b : Int) (w : World) : Calls Tryd.prog 10 #[.int .i64 a, .int .i64 b] w fun e w' => e = .returned (.tuple #[.bool (freB a b), .int .i64 (freE a b)]) ∧ w' = w := by
  have CA := hide (fun W => isNumber_same a W)
  have CB := hide (fun W => isNumber_same b W)
  have HA := seqOk_iff a
  have HB := seqOk_iff b
  unfold freB freE
  generalize seqOk a = A at *
  generalize seqOk b = B at *
  cases A with
  | false =>
    clear HA HB CB
    go_enter Tryd.func10, Tryd.ntmps10
    go_wp2_with fail
    refine (CA.out _).mono ?_
    rintro e w1 ⟨rfl, hb1⟩
    subst hb1
    go_wp2
    go_ret2
    exact ⟨rfl, rfl⟩
  | true =>
    cases B with
    | false =>
      clear HA HB
      go_enter Tryd.func10, Tryd.ntmps10
      go_wp2_with fail
      refine (CA.out _).mono ?_
      rintro e w1 ⟨rfl, hb1⟩
      subst hb1
      go_wp2_with fail
      refine (CB.out _).mono ?_
      rintro e w2 ⟨rfl, hb2⟩
      subst hb2
      go_wp2
      go_ret2
      exact ⟨rfl, rfl⟩
    | true =>
      have hA := HA.1 rfl
      have hB := HB.1 rfl
      clear HA HB
      have hw : IntKind.i64.wrap (b - a) = b - a := by rw [IntKind.wrap_i64]; omega
      have hR : ∃ Z, (true && true && (decide (0 < b - a) && decide (b - a < 8388608) || decide (b - a < -8388608))) = Z ∧ (0 < b - a → b - a < 8388608 → Z = true) ∧ (0 < b - a → ¬ b - a < 8388608 → Z = decide (b - a < -8388608)) ∧ (¬ 0 < b - a → Z = decide (b - a < -8388608)) := ⟨_, rfl, fun h1 h2 => by rw [decide_eq_true h1, decide_eq_true h2]; rfl, fun h1 h2 => by rw [decide_eq_true h1, decide_eq_false h2]; rfl, fun h1 => by rw [decide_eq_false h1]; rfl⟩
      obtain ⟨Z, hZ, z1, z2, z3⟩ := hR
      rw [hZ]
      clear hZ
      by_cases c1 : 0 < b - a
      · by_cases c2 : b - a < 8388608
        · obtain rfl := z1 c1 c2
          clear z2 z3
          go_enter Tryd.func10, Tryd.ntmps10
          go_wp2_with fail
          refine (CA.out _).mono ?_
          rintro e w1 ⟨rfl, hb1⟩
          subst hb1
          go_wp2_with fail
          refine (CB.out _).mono ?_
          rintro e w2 ⟨rfl, hb2⟩
          subst hb2
          go_wp2
          go_ret2
          exact ⟨by first | rfl | (simp; done) | (simp; omega), rfl⟩
        · obtain rfl := z2 c1 c2
          clear z1 z3
          go_enter Tryd.func10, Tryd.ntmps10
          go_wp2_with fail
          refine (CA.out _).mono ?_
          rintro e w1 ⟨rfl, hb1⟩
          subst hb1
          go_wp2_with fail
          refine (CB.out _).mono ?_
          rintro e w2 ⟨rfl, hb2⟩
          subst hb2
          go_wp2
          go_ret2
          exact ⟨by first | rfl | (simp; done) | (simp; omega), rfl⟩
      · obtain rfl := z3 c1
        clear z1 z2
        go_enter Tryd.func10, Tryd.ntmps10
        go_wp2_with fail
        refine (CA.out _).mono ?_
        rintro e w1 ⟨rfl, hb1⟩
        subst hb1
        go_wp2_with fail
        refine (CB.out _).mono ?_
        rintro e w2 ⟨rfl, hb2⟩
        subst hb2
        go_wp2
        go_ret2
        exact ⟨by first | rfl | (simp; done) | (simp; omega), rfl⟩
theorem fresh_any (a b : Int) (w : World) : Calls Tryd.prog 10 #[.int .i64 a, .int .i64 b] w fun e w' => e = .returned (.tuple #[.bool (freB a b), .int .i64 (freE a b)]) ∧ Below w.heap.size w w' := (fresh_same a b w).mono fun _ _ h => ⟨h.1, by rw [h.2]; exact Below.refl _ _⟩
end Go.Proofs.YtbodjfmbdddieafDoor
