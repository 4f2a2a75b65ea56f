/-
  What was read, and the bytes that told it: plain facts (for the way from bytes to packets and back).
-/
import Derived.Test.YtedlebkpdejhiacWireBackMath
namespace Go.Proofs.Ytedlebkpdejhiac
open Go.RowKit Go.PlainAid

theorem numE_in2 {v : Int} {k : Nat} (hk : k = 1 ∨ k = 2) (h0 : 0 ≤ v) (h1 : v < 256 ^ k) : numE v k = 0 := by
  refine numE_ok (by omega) ?_
  rcases hk with rfl | rfl
  · simp at h1 ⊢; omega
  · simp at h1 ⊢; omega
/-- the bytes ahead of a place -/
def pre (s : ByteArray) (n : Nat) : ByteArray := s.extract 0 n
theorem pre_list (s : ByteArray) (n : Nat) : (pre s n).data.toList = s.data.toList.take n := by
  rw [pre, Lib.extract_data, List.drop_zero, Nat.sub_zero]
theorem pre_all (s : ByteArray) : pre s s.size = s := by
  apply ByteArray.ext; apply Array.toList_inj.1
  rw [pre_list, List.take_of_length_le (by simp)]
theorem pre_ext (s : ByteArray) {n m : Nat} (h : n ≤ m) : pre s m = pre s n ++ s.extract n m := by
  apply ByteArray.ext; apply Array.toList_inj.1
  rw [ByteArray.data_append, Array.toList_append, pre_list, pre_list, Lib.extract_data]
  conv => lhs; rw [show m = n + (m - n) by omega, List.take_add]
theorem getD_lt (s : ByteArray) (n : Nat) : (s.data.toList.getD n 0).toNat < 256 := (s.data.toList.getD n 0).toNat_lt
theorem byte_back (u : UInt8) (n : Nat) (h : n = u.toNat) : UInt8.ofNat n = u := by subst h; simp
theorem pre_num1 (s : ByteArray) (n : Nat) (h : n + 1 ≤ s.size) : pre s (n + 1) = pre s n ++ numS (beN s n 1 : Int) 1 := by
  have hlt := beN_lt s n 1
  have hE : numE (beN s n 1 : Int) (1 : Nat) = 0 := numE_in2 (.inl rfl) (by omega) (by simp at hlt ⊢; omega)
  have hl : s.data.toList.length = s.size := by simp
  apply ByteArray.ext; apply Array.toList_inj.1
  rw [ByteArray.data_append, Array.toList_append, pre_list, pre_list]
  rw [show numS (beN s n 1 : Int) 1 = _ from numS_ok hE, strOfNums_data]
  rw [List.take_succ_eq_append_getElem (by omega)]
  congr 1
  have hg : s.data.toList.getD n 0 = s.data.toList[n] := by rw [List.getD_eq_getElem?_getD, List.getElem?_eq_getElem (by omega)]; rfl
  have hb := getD_lt s n
  simp only [beN, Nat.mul_zero, Nat.zero_add, Nat.add_zero]
  rw [hg] at hb ⊢
  simp only [Array.getElem_toList] at hb ⊢
  generalize s.data[n]'(by have : s.data.size = s.size := rfl; omega) = x at *
  rw [show beL (Int.toNat 1) ((x.toNat : Nat) : Int) = [((x.toNat : Nat) : Int) % 256] from rfl]
  simp only [List.map_cons, List.map_nil]
  rw [byte_back x _ (by omega)]
theorem pre_num2 (s : ByteArray) (n : Nat) (h : n + 2 ≤ s.size) : pre s (n + 2) = pre s n ++ numS (beN s n 2 : Int) 2 := by
  have hlt := beN_lt s n 2
  have hE : numE (beN s n 2 : Int) (2 : Nat) = 0 := numE_in2 (.inr rfl) (by omega) (by simp at hlt ⊢; omega)
  have hl : s.data.toList.length = s.size := by simp
  apply ByteArray.ext; apply Array.toList_inj.1
  rw [ByteArray.data_append, Array.toList_append, pre_list, pre_list]
  rw [show numS (beN s n 2 : Int) 2 = _ from numS_ok hE, strOfNums_data]
  rw [List.take_succ_eq_append_getElem (i := n + 1) (by omega), List.take_succ_eq_append_getElem (i := n) (by omega), List.append_assoc]
  congr 1
  have g0 : s.data.toList.getD n 0 = s.data.toList[n] := by rw [List.getD_eq_getElem?_getD, List.getElem?_eq_getElem (by omega)]; rfl
  have g1 : s.data.toList.getD (n + 1) 0 = s.data.toList[n + 1] := by rw [List.getD_eq_getElem?_getD, List.getElem?_eq_getElem (by omega)]; rfl
  have b0 := getD_lt s n
  have b1 := getD_lt s (n + 1)
  simp only [beN, Nat.mul_zero, Nat.zero_add, Nat.add_zero]
  rw [g0] at b0 ⊢
  rw [g1] at b1 ⊢
  simp only [Array.getElem_toList] at b0 b1 ⊢
  generalize s.data[n]'(by have : s.data.size = s.size := rfl; omega) = x at *
  generalize s.data[n + 1]'(by have : s.data.size = s.size := rfl; omega) = y at *
  rw [show ∀ v : Int, beL (Int.toNat 2) v = [v / 256 % 256, v % 256] from fun v => rfl]
  simp only [List.map_cons, List.map_nil, List.singleton_append]
  rw [byte_back x _ (by omega), byte_back y _ (by omega)]
end Go.Proofs.Ytedlebkpdejhiac
