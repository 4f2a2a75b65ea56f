/-
  BlockMany: the walk through the law, by the contracts of what it calls.
-/
import Derived.Test.YtcldjoklkbbbgadBlkBegun
namespace Go.Proofs.Ytcldjoklkbbbgad
open Go.RowKit Go.PlainAid

/-- how many blocks there are -/
theorem many_some {n : Nat} {s : Int} (h : 0 < n) : ((n : Int) + (room s : Int) - 1) / (room s : Int) = (lastB n s : Int) + 1 := by
  have hp := room_pos s
  have e : ((n : Int) + (room s : Int) - 1) = (((n - 1) + room s : Nat) : Int) := by omega
  rw [e, ← Int.natCast_ediv, Nat.add_div_right _ hp]
  rfl
theorem many_none (s : Int) : ((0 : Int) + (room s : Int) - 1) / (room s : Int) = 0 := by
  have hp := room_pos s
  exact Int.ediv_eq_zero_of_lt (by omega) (by omega)

/-- twice the size needs no more -/
theorem last_twice {n : Nat} {s : Int} (h : 0 ≤ s) : lastB n (s + 1) ≤ lastB n s := by
  unfold lastB
  rw [room_twice h]
  exact Nat.div_le_div_left (by omega) (room_pos s)

theorem cut_here (p : ByteArray) (k : Nat) (s : Int) (h : k ≤ lastB p.size s) : p.extract (k * room s) (k * room s + (cutS p k s).size) = cutS p k s := by
  have h1 := cut_from h
  rw [cutS_size]
  unfold cutS
  rw [Int.toNat_natCast]
  congr 1
  omega

theorem cut_none' (p : ByteArray) (N : Nat) (s : Int) (h : p.size ≤ 200) (h0 : 0 ≤ s) (h6 : s ≤ 6) (hl : lastB p.size s < N) (W : World) :
    Calls Try.prog 8 #[.string p, .int .i64 N, .int .i64 s] W fun e w' => e = .returned (.tuple #[.string ⟨#[]⟩, .agg #[.int .i64 0, .bool false, .int .i64 0], .int .i64 5]) ∧ Below W.heap.size W w' :=
  cut_none p N s W h h0 h6 (by omega) (by omega)

set_option maxHeartbeats 4000000 in
set_option maxRecDepth 100000 in
theorem blockMany_walk (p : ByteArray) (s : Int) (w : World) (hp : p.size ≤ maxLen) :
    Calls Try.prog 3 #[.string p, .int .i64 s] w fun e w' => e = .returned (.bool true) ∧ Below w.heap.size w w' := by
  unfold maxLen at hp
  by_cases h1 : 200 < (p.size : Int)
  · go_enter Try.func3, Try.ntmps3
    go_wp2_with fail
    refine (blockBegun_yes _).mono ?_
    rintro e w1 ⟨rfl, hb1⟩
    have HB1 := hide hb1
    clear hb1
    go_wp2
    go_ret
    exact ⟨rfl, HB1.out⟩
  by_cases h2 : s < 0
  · go_enter Try.func3, Try.ntmps3
    go_wp2_with fail
    refine (blockBegun_yes _).mono ?_
    rintro e w1 ⟨rfl, hb1⟩
    have HB1 := hide hb1
    clear hb1
    go_wp2
    go_ret
    exact ⟨rfl, HB1.out⟩
  by_cases h3 : 6 < s
  · have h2' : decide (s < 0) = false := by simp; omega
    go_enter Try.func3, Try.ntmps3
    go_wp2_with fail
    refine (blockBegun_yes _).mono ?_
    rintro e w1 ⟨rfl, hb1⟩
    have HB1 := hide hb1
    clear hb1
    go_wp2
    go_ret
    exact ⟨rfl, HB1.out⟩
  have s0 : 0 ≤ s := by omega
  have s6 : s ≤ 6 := by omega
  have hp2 : p.size ≤ 200 := by omega
  have h2' : decide (s < 0) = false := by simp; omega
  have h3' : decide (6 < s) = false := by simp; omega
  have CL := hide (fun W => longBlock_any s W s0 s6)
  have CC : Hid (∀ (k : Nat) W, k ≤ lastB p.size s → Calls Try.prog 8 #[.string p, .int .i64 k, .int .i64 s] W fun e w' => e = .returned (.tuple #[.string (cutS p k s), .agg #[.int .i64 k, .bool (decide ((k : Int) < lastB p.size s)), .int .i64 s], .int .i64 0]) ∧ Below W.heap.size W w') := fun (k : Nat) W hk => cut_ok p k s W hp2 s0 s6 hk
  have CN := hide (fun W => cut_none' p (lastB p.size s + 1) s hp2 s0 s6 (by omega) W)
  have CT : Hid (s ≠ 6 → ∀ W, Calls Try.prog 8 #[.string p, .int .i64 ((lastB p.size s + 1 : Nat) : Int), .int .i64 (s + 1)] W fun e w' => e = .returned (.tuple #[.string ⟨#[]⟩, .agg #[.int .i64 0, .bool false, .int .i64 0], .int .i64 5]) ∧ Below W.heap.size W w') :=
    fun h W => cut_none' p (lastB p.size s + 1) (s + 1) hp2 (by omega) (by omega) (by have := last_twice (n := p.size) s0; omega) W
  have r1 : (16 : Int) ≤ room s := by have := room_ge s; omega
  have r2 : (room s : Int) ≤ 1024 := by have := room_le s6; omega
  have HM1 : Hid (0 < p.size → ((p.size : Int) + (room s : Int) - 1) / (room s : Int) = (lastB p.size s : Int) + 1) := fun h => many_some h
  have HM0 : Hid (p.size = 0 → ((p.size : Int) + (room s : Int) - 1) / (room s : Int) = 0 ∧ lastB p.size s = 0) := fun h => by
    rw [h]
    exact ⟨many_none s, Nat.div_eq_of_lt (by have := room_pos s; omega)⟩
  have l12 := lastB_le p.size s hp2
  have HX : Hid (∀ k : Nat, k ≤ lastB p.size s → p.extract (k * room s) (k * room s + (cutS p k s).size) = cutS p k s ∧ k * room s + (cutS p k s).size ≤ p.size ∧ (k < lastB p.size s → (cutS p k s).size = room s)) := fun k hk => ⟨cut_here p k s hk, by have := cut_from hk; rw [cutS_size]; omega, fun h => cutS_full h⟩
  go_enter Try.func3, Try.ntmps3
  go_wp2_with fail
  refine (blockBegun_yes _).mono ?_
  rintro e w1 ⟨rfl, hb1⟩
  have HB1 := hide hb1
  clear hb1
  go_wp2_with fail
  refine (CL.out _).mono ?_
  rintro e w1' ⟨rfl, h1⟩
  subst h1
  go_upto_if 40 with fail
  revert CL CC CN CT r1 r2 HM1 HM0 l12 HX
  generalize lastB p.size s = L
  generalize room s = R
  intro CL CC CN CT r1 r2 HM1 HM0 l12 HX
  obtain ⟨N, hN, hN1, hN2⟩ : ∃ N, N = L + 1 ∧ N ≤ L + 1 ∧ L + 1 ≤ N := ⟨_, rfl, Nat.le_refl _, Nat.le_refl _⟩
  have HNL := hide hN
  rw [← hN] at CN CT
  clear hN
  go_cut [6] (fun x wr => x = .int .i64 N ∧ wr = w1')
  case first =>
    by_cases hz : p.size = 0
    · obtain ⟨e1, rfl⟩ := HM0.out hz
      rw [e1]
      go_wp2_with fail
      go_meet
      case rel => exact ⟨by rw [HNL.out]; rfl, rfl⟩
    · have e1 := HM1.out (by omega)
      rw [e1]
      have e2 : ((L : Int) + 1 == 0) = false := beq_false_of_ne (by omega)
      clear e1
      go_wp2_with fail
      go_meet
      case rel => exact ⟨by rw [HNL.out]; go_num, rfl⟩
  case rest =>
    obtain ⟨rfl, hw⟩ := hcut
    subst hw
    clear CL HM1 HM0
    go_wp2_with fail
    go_loopw [7] (fun i wr => ∃ k : Nat, k ≤ N ∧ i = .int .i64 k ∧ Hid (Below w.heap.size w wr)) (fun i _ => N - (intOf i).toNat)
    case atStart => exact ⟨0, by omega, rfl, HB1.out⟩
    case round =>
      obtain ⟨k, hk, rfl, HR⟩ := hrel
      have hsz := HR.out.size
      by_cases hlt : k < N
      · obtain ⟨x1, x2, x3⟩ := HX.out k (by omega)
        have C := hide (CC.out k wr (by omega))
        have HT : Hid ((k : Int) * R = ((k * R : Nat) : Int)) := (Int.natCast_mul _ _).symm
        have t1 : (k : Int) * R + (cutS p k s).size ≤ p.size := by rw [HT.out]; omega
        have t2 : 0 ≤ (k : Int) * R := by rw [HT.out]; omega
        clear CC HX
        revert x1 x2 x3 C t1
        generalize cutS p k s = CS
        intro x1 x2 x3 C t1
        have x1' : ((p.extract (k * R) (k * R + CS.size)).toList == CS.toList) = true := by rw [txt_eq]; simp [x1]
        clear x1
        go_wp2_with fail
        refine C.out.mono ?_
        rintro e w2 ⟨rfl, hb2⟩
        have HB2 := hide (HR.out.trans (hb2.mono hsz))
        have HB3 := hide (HB2.out.alloc HB2.out.size (.cells #[.int .i64 k, .bool (decide ((k : Int) < L)), .int .i64 s] 25))
        clear hb2 C HB2
        by_cases hm : k < L
        · have m1 : decide ((k : Int) < L) = true := by simp; omega
          have m3 : (CS.size : Int) = R := by have := x3 hm; omega
          rw [m1] at HB3
          rw [m1]
          rw [x3 hm] at x1'
          have m4 : (k : Int) < N - 1 := by omega
          clear x3
          go_wp2
          go_round
          case rel => exact ⟨k + 1, by omega, by go_num, HB3.out⟩
          case measure => simp [intOf]; omega
        · have m1 : decide ((k : Int) < L) = false := by simp; omega
          have m4 : ¬ (k : Int) < N - 1 := by omega
          rw [m1] at HB3
          rw [m1]
          clear x3
          go_wp2
          go_round
          case rel => exact ⟨k + 1, by omega, by go_num, HB3.out⟩
          case measure => simp [intOf]; omega
      · have hkL : ¬ (k : Int) < N := by omega
        clear HX CC
        go_wp2_with fail
        refine (CN.out _).mono ?_
        rintro e w2 ⟨rfl, hb2⟩
        have HB2 := hide (HR.out.trans (hb2.mono hsz))
        have HB3 := hide (HB2.out.alloc HB2.out.size (.cells #[.int .i64 0, .bool false, .int .i64 0] 25))
        clear hb2 HB2
        by_cases h6 : s = 6
        · have h6' : (s == 6) = true := by simp [h6]
          clear h6
          go_wp2
          go_ret
          exact ⟨rfl, HB3.out⟩
        · have h6' : (s == 6) = false := by simp [h6]
          have CT := hide (CT.out h6)
          have h5 : s ≤ 5 := by omega
          clear h6
          have hs3 := HB3.out.size
          go_wp2_with fail
          refine (CT.out _).mono ?_
          rintro e w3 ⟨rfl, hb3⟩
          have HB4 := hide (HB3.out.trans (hb3.mono hs3))
          have HB5 := hide (HB4.out.alloc HB4.out.size (.cells #[.int .i64 0, .bool false, .int .i64 0] 25))
          clear hb3 HB4
          go_wp2
          go_ret
          exact ⟨rfl, HB5.out⟩

theorem blockMany_lift {w : World} (p : ByteArray) (hp : p.size ≤ 140737488355328) (s : Int) :
    Calls Try.prog 3 #[.string p, .int .i64 s] w fun e w' => e = .returned (.bool true) ∧ Below w.heap.size w w' := blockMany_walk p s w (by unfold maxLen; omega)
end Go.Proofs.Ytcldjoklkbbbgad
