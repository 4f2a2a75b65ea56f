/-
  dragomanref.halfAt: what it answers.
-/
import Derived.Test.YtedlebkpdejhiacRefOfMath
import Derived.Test.YtedlebkpdejhiacWireGets
namespace Go.Proofs.Ytedlebkpdejhiac
open Go.RowKit Go.PlainAid

/-- the bytes from a place on -/
def lf (s : ByteArray) (n : Nat) : ByteArray := s.extract n s.size
theorem lf_size (s : ByteArray) (n : Nat) : (lf s n).size = s.size - n := by rw [lf, ByteArray.size_extract]; omega
theorem lf_lf (s : ByteArray) (n k : Nat) : (lf s n).extract k (lf s n).size = lf s (n + k) := by
  apply ByteArray.ext; apply Array.toList_inj.1
  have e : s.data.toList.length = s.size := by simp
  rw [Lib.extract_data, lf_size, lf, lf, Lib.extract_data, Lib.extract_data, List.drop_take, List.drop_drop, List.take_take]
  congr 1
  omega
theorem beN_lf (s : ByteArray) (n k : Nat) (h : n + k ≤ s.size) : beN (lf s n) 0 k = beN s n k := by
  have e := pre_ext s (n := n) (m := s.size) (by omega)
  rw [pre_all] at e
  have hz : (pre s n).size = n := by rw [pre, ByteArray.size_extract]; omega
  have := beN_cat3 (pre s n) (lf s n) ⟨#[]⟩ k (by rw [lf_size]; omega)
  rw [mb_nil, hz, show pre s n ++ lf s n = s from e.symm] at this
  exact this.symm
theorem nu_lf (s : ByteArray) (n k : Nat) : nu (lf s n) k = if n + k ≤ s.size then (beN s n k : Int) else if k = 0 then 0 else 0 := by
  unfold nu
  by_cases h : n + k ≤ s.size
  · rw [if_pos (by rw [lf_size]; omega), if_pos h, beN_lf s n k h]
  · rw [if_neg h]
    by_cases hk : k = 0
    · subst hk
      rw [if_pos (Nat.zero_le _)]
      simp [beN]
    · rw [if_neg (by rw [lf_size]; omega), if_neg hk]
theorem tkL_lf (s : ByteArray) (n k : Nat) (h : n + k ≤ s.size) : tkL (lf s n) k = lf s (n + k) := by
  rw [tkL, if_pos (by rw [lf_size]; omega), lf_lf]
theorem tk_lf (s : ByteArray) (n k : Nat) (h : n + k ≤ s.size) : tk (lf s n) k = s.extract n (n + k) := by
  rw [tk, if_pos (by rw [lf_size]; omega)]
  apply ByteArray.ext; apply Array.toList_inj.1
  have e : s.data.toList.length = s.size := by simp
  rw [Lib.extract_data, lf, Lib.extract_data, Lib.extract_data, List.drop_zero, List.take_take]
  congr 1
  omega
theorem tkB_lf (s : ByteArray) (n k : Nat) (hn : n ≤ s.size) (bad : Bool) : tkB (lf s n) k bad = (bad || decide (s.size < n + k)) := by
  rw [tkB, lf_size]
  congr 1
  apply decide_eq_decide.2
  omega

/-- what halfAt answers -/
def HalfPost (s : ByteArray) (n : Nat) (t : Int) (w : World) (e : Ending) (w' : World) : Prop :=
  ∃ X Y : Int, e = .returned (.tuple #[.int .i64 X, .int .i64 Y, .bool (!amB (lf s n) t false)]) ∧ (amB (lf s n) t false = false → X = am (lf s n) t ∧ ∃ k : Nat, Y = k ∧ k ≤ s.size ∧ amL (lf s n) t = lf s k) ∧ w' = w
theorem HalfPost.mk {s : ByteArray} {n : Nat} {t : Int} {w w' : World} {e : Ending} {B : Bool} {X Y : Int} (hB : (!amB (lf s n) t false) = B) (he : e = .returned (.tuple #[.int .i64 X, .int .i64 Y, .bool B])) (h : B = true → X = am (lf s n) t ∧ ∃ k : Nat, Y = k ∧ k ≤ s.size ∧ amL (lf s n) t = lf s k) (hw : w' = w) : HalfPost s n t w e w' :=
  ⟨X, Y, by rw [hB]; exact he, fun hb => h (by rw [← hB, hb]; rfl), hw⟩

set_option maxHeartbeats 2000000 in
theorem halfAt_any (s : ByteArray) (n : Nat) (t : Int) (w : World) (hs : s.size ≤ 140737488355328) (hn : n ≤ s.size) (h0 : 0 ≤ t) (h1 : t ≤ 15) :
    Calls Try.prog 20 #[.string s, .int .i64 n, .int .i64 t] w (HalfPost s n t w) := by
  have hs' : s.size ≤ maxLen := by unfold maxLen; omega
  by_cases h13 : t < 13
  · have HB : Hid ((!amB (lf s n) t false) = true) := by show _ = _; rw [amB, if_neg (by omega), if_neg (by omega), decide_eq_false (by omega)]; rfl
    have HX : Hid (t = am (lf s n) t ∧ ∃ k : Nat, (n : Int) = k ∧ k ≤ s.size ∧ amL (lf s n) t = lf s k) := ⟨by rw [am, if_neg (by omega), if_neg (by omega)], n, rfl, hn, by rw [amL, if_neg (by omega), if_neg (by omega)]⟩
    clear h0 h1
    go_enter Try.func20, Try.ntmps20
    go_wp2
    refine bodyPost_ret (v := .tuple #[.int .i64 t, .int .i64 n, .bool true]) (by simp [results, Try.results20, go_sem]) rfl (HalfPost.mk HB.out rfl (fun _ => HX.out) rfl)
  · by_cases h15 : t = 15
    · subst h15
      have HB : Hid ((!amB (lf s n) 15 false) = false) := rfl
      go_enter Try.func20, Try.ntmps20
      go_wp2
      refine bodyPost_ret (v := .tuple #[.int .i64 0, .int .i64 n, .bool false]) (by simp [results, Try.results20, go_sem]) rfl (HalfPost.mk HB.out rfl (fun h => by simp at h) rfl)
    · have h1314 : t = 13 ∨ t = 14 := by omega
      rcases h1314 with rfl | rfl
      · by_cases hk : n + 1 ≤ s.size
        · have HB : Hid ((!amB (lf s n) 13 false) = true) := by show (!tkB (lf s n) 1 false) = true; rw [tkB_lf s n 1 hn, decide_eq_false (by omega)]; rfl
          have HX : Hid ((beN s n 1 : Int) + 13 = am (lf s n) 13 ∧ ∃ k : Nat, (n : Int) + 1 = k ∧ k ≤ s.size ∧ amL (lf s n) 13 = lf s k) := ⟨by show _ = 13 + nu (lf s n) 1; rw [nu_lf, if_pos hk]; omega, n + 1, by omega, hk, tkL_lf s n 1 hk⟩
          have hlt := beN_lt s n 1
          have C := hide (fun W => getOf_ok s n 1 W hs' (by decide) (by decide) hk)
          simp only [Nat.reducePow] at hlt
          clear h13 h15 h0 h1
          go_enter Try.func20, Try.ntmps20
          go_wp2_with fail
          refine (C.out _).mono ?_
          rintro e w1 ⟨rfl, rfl⟩
          go_wp2
          refine bodyPost_ret (v := .tuple #[.int .i64 ((beN s n 1 : Int) + 13), .int .i64 ((n : Int) + 1), .bool true]) (by simp [results, Try.results20, go_sem]) rfl (HalfPost.mk HB.out rfl (fun _ => HX.out) rfl)
        · have HB : Hid ((!amB (lf s n) 13 false) = false) := by show (!tkB (lf s n) 1 false) = false; rw [tkB_lf s n 1 hn, decide_eq_true (by omega)]; rfl
          have C := hide (fun W => getOf_short s n 1 W hs' (by decide) (by decide) (by omega) (by omega))
          clear h13 h15 h0 h1
          go_enter Try.func20, Try.ntmps20
          go_wp2_with fail
          refine (C.out _).mono ?_
          rintro e w1 ⟨rfl, rfl⟩
          go_wp2
          refine bodyPost_ret (v := .tuple #[.int .i64 13, .int .i64 ((n : Int) + 1), .bool false]) (by simp [results, Try.results20, go_sem]) rfl (HalfPost.mk HB.out rfl (fun h => by simp at h) rfl)
      · by_cases hk : n + 2 ≤ s.size
        · have HB : Hid ((!amB (lf s n) 14 false) = true) := by show (!tkB (lf s n) 2 false) = true; rw [tkB_lf s n 2 hn, decide_eq_false (by omega)]; rfl
          have HX : Hid ((beN s n 2 : Int) + 269 = am (lf s n) 14 ∧ ∃ k : Nat, (n : Int) + 2 = k ∧ k ≤ s.size ∧ amL (lf s n) 14 = lf s k) := ⟨by show _ = 269 + nu (lf s n) 2; rw [nu_lf, if_pos hk]; omega, n + 2, by omega, hk, tkL_lf s n 2 hk⟩
          have hlt := beN_lt s n 2
          have C := hide (fun W => getOf_ok s n 2 W hs' (by decide) (by decide) hk)
          simp only [Nat.reducePow] at hlt
          clear h13 h15 h0 h1
          go_enter Try.func20, Try.ntmps20
          go_wp2_with fail
          refine (C.out _).mono ?_
          rintro e w1 ⟨rfl, rfl⟩
          go_wp2
          refine bodyPost_ret (v := .tuple #[.int .i64 ((beN s n 2 : Int) + 269), .int .i64 ((n : Int) + 2), .bool true]) (by simp [results, Try.results20, go_sem]) rfl (HalfPost.mk HB.out rfl (fun _ => HX.out) rfl)
        · have HB : Hid ((!amB (lf s n) 14 false) = false) := by show (!tkB (lf s n) 2 false) = false; rw [tkB_lf s n 2 hn, decide_eq_true (by omega)]; rfl
          have C := hide (fun W => getOf_short s n 2 W hs' (by decide) (by decide) (by omega) (by omega))
          clear h13 h15 h0 h1
          go_enter Try.func20, Try.ntmps20
          go_wp2_with fail
          refine (C.out _).mono ?_
          rintro e w1 ⟨rfl, rfl⟩
          go_wp2
          refine bodyPost_ret (v := .tuple #[.int .i64 269, .int .i64 ((n : Int) + 2), .bool false]) (by simp [results, Try.results20, go_sem]) rfl (HalfPost.mk HB.out rfl (fun h => by simp at h) rfl)
end Go.Proofs.Ytedlebkpdejhiac
