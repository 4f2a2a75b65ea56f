/-
  What is told is read: plain facts on the bytes of numbers and texts (no program in it).
-/
import Derived.Test.YtnjdpibgfbbkcabGreatDoorWireMath
import Derived.Lib.Strings
import Derived.Test.YtnjdpibgfbbkcabGreatDoorWireAll
import Derived.Deep.DeepCutAuto
namespace Go.Proofs.YtnjdpibgfbbkcabGreatDoor
open Go.RowKit Go.PlainAid

theorem cat3_getD (x s y : ByteArray) (k : Nat) (h : k < s.size) : (x ++ s ++ y).data.toList.getD (x.size + k) 0 = s.data.toList.getD k 0 := by
  have e1 : x.data.toList.length = x.size := by simp
  have e2 : s.data.toList.length = s.size := by simp
  simp only [ByteArray.data_append, Array.toList_append, List.append_assoc, List.getD_eq_getElem?_getD]
  rw [List.getElem?_append_right (by omega), List.getElem?_append_left (by omega), show x.size + k - x.data.toList.length = k by omega]

theorem beN_cat3 (x s y : ByteArray) (k : Nat) (h : k ≤ s.size) : beN (x ++ s ++ y) x.size k = beN s 0 k := by
  induction k with
  | zero => rfl
  | succ k ih => rw [beN, beN, ih (by omega), cat3_getD x s y k (by omega), Nat.zero_add]

theorem str_getD (l : List Int) (k : Nat) (h : k < l.length) : (strOfNums l).data.toList.getD k 0 = UInt8.ofNat (l.getD k 0).toNat := by
  rw [strOfNums_data]
  simp [List.getD_eq_getElem?_getD, List.getElem?_eq_getElem h]

theorem beN_prefix (l : List Int) (x : Int) (k : Nat) (h : k ≤ l.length) : beN (strOfNums (l ++ [x])) 0 k = beN (strOfNums l) 0 k := by
  induction k with
  | zero => rfl
  | succ k ih =>
    rw [beN, beN, ih (by omega), Nat.zero_add, str_getD _ k (by simp; omega), str_getD _ k (by omega)]
    simp [List.getD_eq_getElem?_getD, List.getElem?_append_left (show k < l.length by omega)]

theorem beN_beL (k : Nat) (n : Nat) (h : n < 256 ^ k) : beN (strOfNums (beL k n)) 0 k = n := by
  induction k generalizing n with
  | zero => simp at h; simp [beN, h]
  | succ k ih =>
    have hn : n / 256 < 256 ^ k := by rw [Nat.pow_succ] at h; omega
    have e : ((n : Int) / 256) = ((n / 256 : Nat) : Int) := by omega
    have hl : (beL k ((n / 256 : Nat) : Int)).length = k := beL_length _ _
    rw [beN, beL, e, beN_prefix _ _ k (by omega), ih _ hn, Nat.zero_add, str_getD _ k (by rw [List.length_append, hl]; simp)]
    have e2 : (beL k ((n / 256 : Nat) : Int) ++ [(n : Int) % 256]).getD k 0 = (n : Int) % 256 := by
      rw [List.getD_eq_getElem?_getD, List.getElem?_append_right (by omega), hl]; simp
    rw [e2]
    have e3 : ((n : Int) % 256).toNat = n % 256 := by omega
    rw [e3, UInt8.toNat_ofNat']
    omega

theorem numS_size {n b : Int} (h : numE n b = 0) : ((numS n b).size : Int) = b := by
  rw [numS_ok h, strOfNums_size, beL_length]
  by_cases hb : b < 1 ∨ 4 < b
  · rw [numE_kind hb] at h; omega
  · omega

theorem num_back {n b : Int} (h : numE n b = 0) (x y : ByteArray) : (beN (x ++ numS n b ++ y) x.size b.toNat : Int) = n := by
  have hsz := numS_size h
  rw [beN_cat3 _ _ _ _ (by omega), numS_ok h]
  by_cases hb : b < 1 ∨ 4 < b
  · rw [numE_kind hb] at h; omega
  · by_cases hn : n < 0 ∨ 256 ^ b.toNat ≤ n
    · rw [numE_range hb hn] at h; omega
    · obtain ⟨N, rfl⟩ := Int.eq_ofNat_of_zero_le (show 0 ≤ n by omega)
      rw [beN_beL]
      have : ¬ ((256 : Int) ^ b.toNat ≤ (N : Int)) := fun h => hn (.inr h)
      have e : ((256 : Int) ^ b.toNat) = ((256 ^ b.toNat : Nat) : Int) := by simp
      omega

theorem bt_getD (s : ByteArray) (k : Nat) : bt s k = ((s.data.toList.getD k 0).toNat : Int) := by
  unfold bt
  split
  · rename_i h; rw [getD_byte s k h]
  · rename_i h; rw [List.getD_eq_getElem?_getD, List.getElem?_eq_none (by simp; omega)]; rfl

theorem longL_bytes (f n : Nat) : ∀ v ∈ longL f n, 0 ≤ v ∧ v < 256 := by
  induction f generalizing n with
  | zero => intro v hv; simp [longL] at hv; omega
  | succ f ih =>
    intro v hv
    unfold longL at hv
    split at hv
    · simp at hv; omega
    · rcases List.mem_cons.1 hv with h | h
      · omega
      · exact ih _ v h

/-- the long number's bytes are read as it was -/
theorem gl_back (X : ByteArray) (a : Nat) : ∀ (f n i : Nat) (m : Int), i + f = 3 → n < 128 ^ (f + 1) → (0 < i → 0 < n) →
    (∀ j, j < (longL f n).length → bt X (a + i + j) = (longL f n).getD j 0) → a + i + (longL f n).length ≤ X.size →
    glGo X a (f + 1) i m = (m + (n : Int) * 128 ^ i, ((i + (longL f n).length : Nat) : Int), 0) := by
  intro f
  induction f with
  | zero =>
    intro n i m hi hn hp hb hx
    have hn' : n < 128 := by simpa using hn
    have h0 := hb 0 (by simp [longL])
    simp only [longL, Nat.add_zero, List.getD_cons_zero, List.length_singleton] at h0 hx
    have e : ((n : Int) % 256) = n := by omega
    rw [e] at h0
    rw [glGo, if_neg (by omega), if_neg (by omega), if_neg (by omega), h0, show (n : Int) % 128 = n by omega]
    simp [longL]
  | succ f ih =>
    intro n i m hi hn hp hb hx
    by_cases hs : n < 128
    · have e : longL (f + 1) n = [(n : Int)] := if_pos hs
      rw [e] at hb hx ⊢
      have h0 := hb 0 (by simp)
      simp only [Nat.add_zero, List.getD_cons_zero, List.length_singleton] at h0 hx
      rw [glGo, if_neg (by omega), if_neg (by omega), if_neg (by omega), h0, show (n : Int) % 128 = n by omega]
      simp
    · have e : longL (f + 1) n = ((n : Int) % 128 + 128) :: longL f (n / 128) := if_neg hs
      rw [e] at hb hx ⊢
      have h0 := hb 0 (by simp)
      simp only [Nat.add_zero, List.getD_cons_zero, List.length_cons] at h0 hx
      rw [glGo, if_neg (by omega), if_pos (by omega), h0, ih (n / 128) (i + 1) _ (by omega) (by rw [Nat.pow_succ] at hn; omega) (by omega)
        (fun j hj => by have := hb (j + 1) (by simp; omega); simpa [Nat.add_assoc, Nat.add_comm 1 j] using this) (by omega)]
      simp only [List.length_cons, Prod.mk.injEq]
      refine ⟨?_, by omega, trivial⟩
      rw [Int.pow_succ]
      have e1 : ((n : Int) % 128 + 128) % 128 = (n : Int) % 128 := by omega
      rw [e1, ← Int.mul_assoc, Int.mul_right_comm, Int.add_assoc, ← Int.add_mul]
      congr 2
      omega

theorem long_back (n : Nat) (h : n < 268435456) (x y : ByteArray) :
    glGo (x ++ strOfNums (longL 3 n) ++ y) x.size 4 0 0 = ((n : Int), ((strOfNums (longL 3 n)).size : Int), 0) := by
  have hsz : (strOfNums (longL 3 n)).size = (longL 3 n).length := strOfNums_size _
  rw [gl_back _ _ 3 n 0 0 rfl h (by omega)]
  · simp [hsz]
  · intro j hj
    rw [bt_getD, Nat.add_zero, cat3_getD _ _ _ _ (by omega), str_getD _ _ hj]
    have hm : (longL 3 n).getD j 0 ∈ longL 3 n := by
      rw [List.getD_eq_getElem?_getD, List.getElem?_eq_getElem hj]; exact List.getElem_mem _
    have := longL_bytes 3 n _ hm
    rw [UInt8.toNat_ofNat']; omega
  · rw [Nat.add_zero, ByteArray.size_append, ByteArray.size_append]; omega
end Go.Proofs.YtnjdpibgfbbkcabGreatDoor
/-
  The walk of dragomanlaw.WireBack: it answers true, whatever it is handed (each text no longer than what memory can hold).
-/
namespace Go.Proofs.YtnjdpibgfbbkcabGreatDoor
open Go.RowKit

theorem cat3_size (x s y : ByteArray) : (x ++ s ++ y).size = x.size + s.size + y.size := by
  rw [ByteArray.size_append, ByteArray.size_append]

theorem get_back {n b : Int} (h : numE n b = 0) (x y : ByteArray) (w : World) (hx : x.size ≤ 140737488355328) (hy : y.size ≤ 140737488355328) :
    Calls Tryz.prog 82 #[.string (x ++ numS n b ++ y), .int .i64 x.size, .int .i64 b] w fun e w' => e = .returned (.tuple #[.int .i64 n, .int .i64 0]) ∧ w' = w := by
  have hsz := numS_size h
  have hc := cat3_size x (numS n b) y
  have hb : ¬ (b < 1 ∨ 4 < b) := fun hb => by rw [numE_kind hb] at h; omega
  obtain ⟨B, rfl⟩ := Int.eq_ofNat_of_zero_le (show 0 ≤ b by omega)
  have := get_ok (x ++ numS n B ++ y) x.size B w (by unfold maxLen; omega) (by omega) (by omega) (by omega)
  rwa [show (beN (x ++ numS n B ++ y) x.size B : Int) = n from num_back h x y] at this

theorem getLong_back {n : Int} (h : longE n = 0) (x y : ByteArray) (w : World) (hx : x.size ≤ 140737488355328) (hy : y.size ≤ 140737488355328) :
    Calls Tryz.prog 40 #[.string (x ++ longS n ++ y), .int .i64 x.size] w fun e w' => e = .returned (.tuple #[.int .i64 n, .int .i64 (longS n).size, .int .i64 0]) ∧ w' = w := by
  have hn : ¬ (n < 0 ∨ 268435455 < n) := fun hn => by rw [longE, if_pos hn] at h; omega
  obtain ⟨N, rfl⟩ := Int.eq_ofNat_of_zero_le (show 0 ≤ n by omega)
  have e : longS (N : Int) = strOfNums (longL 3 N) := if_neg hn
  rw [e]
  have hc := cat3_size x (strOfNums (longL 3 N)) y
  have hl := longL_length 3 N
  rw [strOfNums_size] at hc
  have := getLong_in (x ++ strOfNums (longL 3 N) ++ y) x.size w (by unfold maxLen; omega) (by omega)
  rwa [long_back N (by omega) x y] at this

theorem textS_size (t : ByteArray) : (textS t).size = 2 + t.size := by
  rw [textS, ByteArray.size_append, strOfNums_size]; rfl

theorem text_num (t x y : ByteArray) (h : (t.size : Int) ≤ 65535) : beN (x ++ textS t ++ y) x.size 2 = t.size := by
  have hs := textS_size t
  rw [beN_cat3 _ _ _ _ (by omega)]
  have e : beN (textS t) 0 2 = beN (strOfNums (beL 2 t.size)) 0 2 := by
    rw [textS]
    have := beN_cat3 ⟨#[]⟩ (strOfNums [(t.size : Int) / 256 % 256, (t.size : Int) % 256]) t 2 (by rw [strOfNums_size]; exact Nat.le_refl 2)
    rw [str_nil] at this
    exact this
  rw [e, beN_beL _ _ (by omega)]

theorem text_cut (t x y : ByteArray) : (x ++ textS t ++ y).extract (x.size + 2) (x.size + 2 + t.size) = t := by
  apply ByteArray.ext
  apply Array.toList_inj.1
  rw [Lib.extract_data]
  have e1 : x.data.toList.length = x.size := by simp
  have e2 : t.data.toList.length = t.size := by simp
  simp only [textS, ByteArray.data_append, Array.toList_append, strOfNums_data, List.append_assoc]
  rw [← List.drop_drop, List.drop_left' e1]
  rw [show x.size + 2 + t.size - (x.size + 2) = t.data.toList.length by omega]
  exact List.take_left

theorem getText_back {t : ByteArray} (h : txtE t = 0) (x y : ByteArray) (w : World) (hx : x.size ≤ 140737488355328) (hy : y.size ≤ 140737488355328) :
    Calls Tryz.prog 89 #[.string (x ++ txtS t ++ y), .int .i64 x.size] w fun e w' => e = .returned (.tuple #[.string t, .int .i64 (txtS t).size, .int .i64 0]) ∧ Below w.heap.size w w' := by
  have ht : ¬ 65535 < (t.size : Int) := fun ht => by rw [txtE, if_pos ht] at h; omega
  have e : txtS t = textS t := if_neg ht
  rw [e]
  have hc := cat3_size x (textS t) y
  have hs := textS_size t
  have hb := text_num t x y (by omega)
  have := getText_ok (x ++ textS t ++ y) x.size w (by unfold maxLen; omega) (by omega) (by omega)
  rw [hb, text_cut t x y] at this
  rwa [hs, show ((2 + t.size : Nat) : Int) = 2 + (t.size : Int) by omega]

end Go.Proofs.YtnjdpibgfbbkcabGreatDoor
