/-
  The reference's small calls of options: BlockErr, blockNumber, ShortOf, messageIs.
-/
import Derived.Test.YtgmjdelgocbcaacDoorOptBackMath
import Derived.Test.YtgmjdelgocbcaacDoorMsgEq
import Derived.Test.YtgmjdelgocbcaacDoorBetween
import Derived.Test.YtgmjdelgocbcaacDoorWireLongOf
namespace Go.Proofs.YtgmjdelgocbcaacDoor
open Go.RowKit Go.PlainAid

set_option maxHeartbeats 1000000 in
theorem blockErr_any (n : Int) (more : Bool) (z : Int) (w : World) : Calls Tryd.prog 19 #[.agg #[.int .i64 n, .bool more, .int .i64 z]] w fun e w' => e = .returned (.int .i64 (if isB n z = true then 0 else 3)) ∧ Below w.heap.size w w' := by
  have HB := hide ((Below.refl w.heap.size w).alloc (Nat.le_refl _) (.cells #[.int .i64 n, .bool more, .int .i64 z] 34))
  obtain ⟨E, HE⟩ : ∃ E : Int, Hid (E = if isB n z = true then 0 else 3) := ⟨_, rfl⟩
  rw [← HE.out]
  by_cases h1 : 0 ≤ z ∧ z ≤ 6
  · have C1 : Hid (∀ W, Calls Tryd.prog 38 #[.int .i64 z, .int .i64 0, .int .i64 6] W fun e w' => e = .returned (.bool true) ∧ w' = W) := fun W => between_yes z 0 6 W h1
    by_cases h2 : 0 ≤ n ∧ n ≤ 1048575
    · have C2 : Hid (∀ W, Calls Tryd.prog 38 #[.int .i64 n, .int .i64 0, .int .i64 1048575] W fun e w' => e = .returned (.bool true) ∧ w' = W) := fun W => between_yes n 0 1048575 W h2
      have HV : Hid (E = 0) := by
        have : isB n z = true := by simp [isB]; omega
        rw [HE.out, if_pos this]; exact rfl
      clear HE
      clear h1 h2
      go_enter Tryd.func19, Tryd.ntmps19
      go_wp2_with fail
      refine (C1.out _).mono ?_
      rintro e w' ⟨rfl, rfl⟩
      go_wp2_with fail
      refine (C2.out _).mono ?_
      rintro e w' ⟨rfl, rfl⟩
      go_wp2
      go_ret
      exact ⟨by rw [HV.out]; rfl, HB.out⟩
    · have C2 : Hid (∀ W, Calls Tryd.prog 38 #[.int .i64 n, .int .i64 0, .int .i64 1048575] W fun e w' => e = .returned (.bool false) ∧ w' = W) := fun W => between_no n 0 1048575 W h2
      have HV : Hid (E = 3) := by
        have : ¬ isB n z = true := by simp [isB]; omega
        rw [HE.out, if_neg this]; exact rfl
      clear HE
      clear h1 h2
      go_enter Tryd.func19, Tryd.ntmps19
      go_wp2_with fail
      refine (C1.out _).mono ?_
      rintro e w' ⟨rfl, rfl⟩
      go_wp2_with fail
      refine (C2.out _).mono ?_
      rintro e w' ⟨rfl, rfl⟩
      go_wp2
      go_ret
      exact ⟨by rw [HV.out]; rfl, HB.out⟩
  · have C1 : Hid (∀ W, Calls Tryd.prog 38 #[.int .i64 z, .int .i64 0, .int .i64 6] W fun e w' => e = .returned (.bool false) ∧ w' = W) := fun W => between_no z 0 6 W h1
    have HV : Hid (E = 3) := by
      have : ¬ isB n z = true := by simp [isB]; omega
      rw [HE.out, if_neg this]; exact rfl
    clear HE h1
    go_enter Tryd.func19, Tryd.ntmps19
    go_wp2_with fail
    refine (C1.out _).mono ?_
    rintro e w' ⟨rfl, rfl⟩
    go_wp2
    go_ret
    exact ⟨by rw [HV.out]; rfl, HB.out⟩

set_option maxHeartbeats 1000000 in
theorem blockNumber_any (n : Int) (more : Bool) (z : Int) (w : World) (h : isB n z = true) : Calls Tryd.prog 23 #[.agg #[.int .i64 n, .bool more, .int .i64 z]] w fun e w' => e = .returned (.int .i64 (blkX n more z)) ∧ Below w.heap.size w w' := by
  simp only [isB, Bool.and_eq_true, decide_eq_true_eq] at h
  obtain ⟨⟨⟨h1, h2⟩, h3⟩, h4⟩ := h
  have HB := hide ((Below.refl w.heap.size w).alloc (Nat.le_refl _) (.cells #[.int .i64 n, .bool more, .int .i64 z] 34))
  have HX : Hid (blkX n more z = 16 * n + z + (if more then 8 else 0)) := by show _ = _; unfold blkX; omega
  generalize blkX n more z = X at *
  cases more
  · have hx : X = 16 * n + z := by rw [HX.out]; simp
    go_enter Tryd.func23, Tryd.ntmps23
    go_wp2
    go_ret
    exact ⟨by first | rfl | (simp [hx]; done) | (rw [hx]; rfl), HB.out⟩
  · have hx : X = 16 * n + z + 8 := by rw [HX.out]; simp
    go_enter Tryd.func23, Tryd.ntmps23
    go_wp2
    go_ret
    exact ⟨by first | rfl | (simp [hx]; done) | (rw [hx]; rfl), HB.out⟩

theorem shortS_zero : shortS 0 = ⟨#[]⟩ := by
  rcases short_spec 0 (by omega) (by omega) with ⟨_, e⟩ | ⟨h, _⟩ | ⟨h, _⟩ | ⟨h, _⟩
  · exact e
  all_goals omega
theorem shortS_rec {a : Int} (h0 : 0 < a) (h1 : a ≤ 16777215) : shortS a = shortS (a / 256) ++ strOfNums [a % 256] := by
  have hs : ∀ x : Int, strOfNums [x] = ⟨#[by8 x]⟩ := fun x => rfl
  have hc : ∀ (s t : Array UInt8), (⟨s⟩ : ByteArray) ++ ⟨t⟩ = ⟨s ++ t⟩ := fun s t => by
    apply ByteArray.ext; simp
  rw [hs]
  rcases short_spec a (by omega) h1 with ⟨h, e⟩ | ⟨h, e⟩ | ⟨h, e⟩ | ⟨h, e⟩
  · omega
  · rcases short_spec (a / 256) (by omega) (by omega) with ⟨k, f⟩ | ⟨k, f⟩ | ⟨k, f⟩ | ⟨k, f⟩
    · rw [e, f, hc, show a % 256 = a by omega]; rfl
    all_goals omega
  · rcases short_spec (a / 256) (by omega) (by omega) with ⟨k, f⟩ | ⟨k, f⟩ | ⟨k, f⟩ | ⟨k, f⟩
    · omega
    · rw [e, f, hc]; rfl
    all_goals omega
  · rcases short_spec (a / 256) (by omega) (by omega) with ⟨k, f⟩ | ⟨k, f⟩ | ⟨k, f⟩ | ⟨k, f⟩
    · omega
    · omega
    · rw [e, f, hc]; rfl
    · omega

set_option maxHeartbeats 1000000 in
theorem shortOf_zero (w : World) : Calls Tryd.prog 22 #[.int .i64 0] w fun e w' => e = .returned (.string (shortS 0)) ∧ Below w.heap.size w w' := by
  rw [shortS_zero]
  go_enter Tryd.func22, Tryd.ntmps22
  go_wp2
  go_ret
  exact ⟨rfl, Below.refl _ _⟩

set_option maxHeartbeats 1000000 in
set_option maxRecDepth 100000 in
theorem shortOf_any (f : Nat) : ∀ (a : Int) (w : World), f ≤ 3 → 0 ≤ a → a < 256 ^ f →
    Calls Tryd.prog 22 #[.int .i64 a] w fun e w' => e = .returned (.string (shortS a)) ∧ Below w.heap.size w w' := by
  induction f with
  | zero =>
    intro a w _ h0 h
    obtain rfl : a = 0 := by simp at h; omega
    exact shortOf_zero w
  | succ f ih =>
    intro a w hf h0 h
    by_cases hz : a = 0
    · subst hz; exact shortOf_zero w
    · have h4 : a ≤ 16777215 := by
        have : (256 : Int) ^ (f + 1) ≤ 256 ^ 3 := by
          have := Nat.pow_le_pow_right (show 0 < 256 by omega) hf
          exact_mod_cast this
        omega
      have IH : Hid (∀ W, Calls Tryd.prog 22 #[.int .i64 (a / 256)] W fun e w' => e = .returned (.string (shortS (a / 256))) ∧ Below W.heap.size W w') := fun W => ih (a / 256) W (by omega) (by omega) (by rw [Int.pow_succ] at h; omega)
      have HS := hide (shortS_rec (show 0 < a by omega) h4)
      have hsz : (shortS (a / 256)).size ≤ 4 := Nat.le_trans (short_back (show 0 ≤ a / 256 by omega) (by omega)).1 (by omega)
      have hn1 : 1 ≤ a := by omega
      generalize shortS (a / 256) = L at *
      clear ih h hz
      have hX : IntKind.u8.wrap (a.tmod 256) = a % 256 := by
        rw [Int.tmod_eq_emod_of_nonneg (by omega), IntKind.wrap_u8']; omega
      have hX2 : IntKind.u8.wrap (IntKind.i64.wrap (a.tmod 256)) = a % 256 := by
        rw [Int.tmod_eq_emod_of_nonneg (by omega), wrap_i64_in _ (by omega) (by omega), IntKind.wrap_u8']; omega
      have hX3 : IntKind.u8.wrap (a % 256) = a % 256 := by rw [IntKind.wrap_u8']; omega
      have hQ : IntKind.i64.wrap (a / 256) = a / 256 := wrap_i64_in _ (by omega) (by omega)
      generalize hx : a % 256 = x at *
      generalize hq : a / 256 = q at *
      clear hx
      have hcv := conv_one
      have hcA : (convert 66 9 (.slice (some ⟨w.heap.size, 0, none⟩) 1 1)).run Tryd.prog (w.alloc (.cells #[.int .u8 x] 5)).drew = .ok (.string (strOfNums [x])) (w.alloc (.cells #[.int .u8 x] 5)).drew :=
        conv_cell _ _ x (by simp)
      have hs1 := str_size1
      have hq0 : IntKind.i64.wrap (a.tdiv 256) = q := by rw [Int.tdiv_eq_ediv_of_nonneg (by omega), hq]; exact hQ
      clear hQ hX3
      go_enter Tryd.func22, Tryd.ntmps22
      go_wp2_with fail
      go_region_with (go_at_call 22; refine (IH.out _).mono ?_; rintro e w1 ⟨rfl, hb⟩; try (have hcC := conv_below hb))
      all_goals (try go_wp2)
      all_goals go_ret
      all_goals refine ⟨by rw [HS.out]; rfl, ?_⟩
      all_goals first | exact ((Below.refl _ w).alloc (Nat.le_refl _) _).drew.trans (hb.mono (by simp)) | exact ((Below.refl _ w).drew.trans hb).alloc hb.size _

theorem zMg_v (ao : Option Addr) (co : Nat) : mgV zMg ao co = .agg #[.int .i64 0, .int .i64 0, .int .i64 0, .string ⟨#[]⟩, .slice ao 0 co, .string ⟨#[]⟩] := rfl
end Go.Proofs.YtgmjdelgocbcaacDoor
