/-
  The walk of dragomanlaw.WireBack: it answers true, whatever it is handed (each text no longer than what memory can hold).
-/
import Derived.Test.YtgmjdelgocbcaabDoorWireAll
import Derived.Deep.DeepCutAuto
import Derived.Test.YtgmjdelgocbcaabDoorWireBackMath
namespace Go.Proofs.YtgmjdelgocbcaabDoor
open Go.RowKit

theorem cat3_size (x s y : ByteArray) : (x ++ s ++ y).size = x.size + s.size + y.size := by
  rw [ByteArray.size_append, ByteArray.size_append]

theorem get_back {n b : Int} (h : numE n b = 0) (x y : ByteArray) (w : World) (hx : x.size ≤ 140737488355328) (hy : y.size ≤ 140737488355328) :
    Calls Tryd.prog 86 #[.string (x ++ numS n b ++ y), .int .i64 x.size, .int .i64 b] w fun e w' => e = .returned (.tuple #[.int .i64 n, .int .i64 0]) ∧ w' = w := by
  have hsz := numS_size h
  have hc := cat3_size x (numS n b) y
  have hb : ¬ (b < 1 ∨ 4 < b) := fun hb => by rw [numE_kind hb] at h; omega
  obtain ⟨B, rfl⟩ := Int.eq_ofNat_of_zero_le (show 0 ≤ b by omega)
  have := get_ok (x ++ numS n B ++ y) x.size B w (by unfold maxLen; omega) (by omega) (by omega) (by omega)
  rwa [show (beN (x ++ numS n B ++ y) x.size B : Int) = n from num_back h x y] at this

theorem getLong_back {n : Int} (h : longE n = 0) (x y : ByteArray) (w : World) (hx : x.size ≤ 140737488355328) (hy : y.size ≤ 140737488355328) :
    Calls Tryd.prog 54 #[.string (x ++ longS n ++ y), .int .i64 x.size] w fun e w' => e = .returned (.tuple #[.int .i64 n, .int .i64 (longS n).size, .int .i64 0]) ∧ w' = w := by
  have hn : ¬ (n < 0 ∨ 268435455 < n) := fun hn => by rw [longE, if_pos hn] at h; omega
  obtain ⟨N, rfl⟩ := Int.eq_ofNat_of_zero_le (show 0 ≤ n by omega)
  have e : longS (N : Int) = strOfNums (longL 3 N) := if_neg hn
  rw [e]
  have hc := cat3_size x (strOfNums (longL 3 N)) y
  have hl := longL_length 3 N
  rw [strOfNums_size] at hc
  have := getLong_in (x ++ strOfNums (longL 3 N) ++ y) x.size w (by unfold maxLen; omega) (by omega)
  rwa [long_back N (by omega) x y] at this

theorem textS_size (t : ByteArray) : (textS t).size = 2 + t.size := by
  rw [textS, ByteArray.size_append, strOfNums_size]; rfl

theorem text_num (t x y : ByteArray) (h : (t.size : Int) ≤ 65535) : beN (x ++ textS t ++ y) x.size 2 = t.size := by
  have hs := textS_size t
  rw [beN_cat3 _ _ _ _ (by omega)]
  have e : beN (textS t) 0 2 = beN (strOfNums (beL 2 t.size)) 0 2 := by
    rw [textS]
    have := beN_cat3 ⟨#[]⟩ (strOfNums [(t.size : Int) / 256 % 256, (t.size : Int) % 256]) t 2 (by rw [strOfNums_size]; exact Nat.le_refl 2)
    rw [str_nil] at this
    exact this
  rw [e, beN_beL _ _ (by omega)]

theorem text_cut (t x y : ByteArray) : (x ++ textS t ++ y).extract (x.size + 2) (x.size + 2 + t.size) = t := by
  apply ByteArray.ext
  apply Array.toList_inj.1
  rw [Lib.extract_data]
  have e1 : x.data.toList.length = x.size := by simp
  have e2 : t.data.toList.length = t.size := by simp
  simp only [textS, ByteArray.data_append, Array.toList_append, strOfNums_data, List.append_assoc]
  rw [← List.drop_drop, List.drop_left' e1]
  rw [show x.size + 2 + t.size - (x.size + 2) = t.data.toList.length by omega]
  exact List.take_left

theorem getText_back {t : ByteArray} (h : txtE t = 0) (x y : ByteArray) (w : World) (hx : x.size ≤ 140737488355328) (hy : y.size ≤ 140737488355328) :
    Calls Tryd.prog 92 #[.string (x ++ txtS t ++ y), .int .i64 x.size] w fun e w' => e = .returned (.tuple #[.string t, .int .i64 (txtS t).size, .int .i64 0]) ∧ Below w.heap.size w w' := by
  have ht : ¬ 65535 < (t.size : Int) := fun ht => by rw [txtE, if_pos ht] at h; omega
  have e : txtS t = textS t := if_neg ht
  rw [e]
  have hc := cat3_size x (textS t) y
  have hs := textS_size t
  have hb := text_num t x y (by omega)
  have := getText_ok (x ++ textS t ++ y) x.size w (by unfold maxLen; omega) (by omega) (by omega)
  rw [hb, text_cut t x y] at this
  rwa [hs, show ((2 + t.size : Nat) : Int) = 2 + (t.size : Int) by omega]

end Go.Proofs.YtgmjdelgocbcaabDoor
