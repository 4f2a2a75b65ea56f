/-
  Small facts that all proofs of this seat use (no program in it).
-/
import Derived.Below
import Derived.Laws.BitsAllLaws
import Derived.IntWalk
import Derived.PlainAid
import Derived.Laws.BytesArg
namespace Go.Proofs.YtnhcecgmcmcioaaDoor
open Go.RowKit

theorem hide {p : Prop} (h : p) : Hid p := h
theorem below_of_eq {w w' : World} (h : w' = w) : Below w.heap.size w w' := by subst h; exact Below.refl _ _
theorem below_step {W a b : World} (h : Below W.heap.size W a) (k : Below a.heap.size a b) : Below W.heap.size W b := h.trans (k.mono h.size)
end Go.Proofs.YtnhcecgmcmcioaaDoor
/-
  Plain facts on bytes, bits and numbers that the proofs on package wire use (no program in it).
-/
namespace Go.Proofs.YtnhcecgmcmcioaaDoor
open Go.RowKit Go.PlainAid

theorem wrap_i64_in (n : Int) (h1 : 0 ≤ n) (h2 : n < 9223372036854775808) : IntKind.i64.wrap n = n := by
  have e1 : n % 2 ^ 64 = n := by omega
  simp only [IntKind.wrap, IntKind.bits, IntKind.signed, e1]
  rw [if_neg (by simp; omega)]

theorem w64 (n : Int) (h : -9223372036854775808 ≤ n ∧ n ≤ 9223372036854775807) : wrap64 n = n := by unfold wrap64; omega

theorem i64_and_nat (a b : Nat) (ha : a < 9223372036854775808) (hb : b < 9223372036854775808) : bits .and .i64 (a : Int) (b : Int) = ((a &&& b : Nat) : Int) := by
  have hx : a &&& b < 2 ^ 63 := Nat.and_lt_two_pow _ (by omega)
  show IntKind.i64.wrap ((BitVec.ofInt 64 (a : Int) &&& BitVec.ofInt 64 (b : Int)).toNat : Int) = _
  rw [BitVec.toNat_and, ofInt_u64 a (by omega), ofInt_u64 b (by omega)]
  exact wrap_i64_in _ (by omega) (by omega)

theorem i64_or_nat (a b : Nat) (ha : a < 9223372036854775808) (hb : b < 9223372036854775808) : bits .or .i64 (a : Int) (b : Int) = ((a ||| b : Nat) : Int) := by
  have hx : a ||| b < 2 ^ 63 := Nat.or_lt_two_pow (by omega) (by omega)
  show IntKind.i64.wrap ((BitVec.ofInt 64 (a : Int) ||| BitVec.ofInt 64 (b : Int)).toNat : Int) = _
  rw [BitVec.toNat_or, ofInt_u64 a (by omega), ofInt_u64 b (by omega)]
  exact wrap_i64_in _ (by omega) (by omega)

theorem i64_and_255 (n : Int) (h1 : 0 ≤ n) (h2 : n < 9223372036854775808) : bits .and .i64 n 255 = n % 256 := by
  obtain ⟨a, rfl⟩ := Int.eq_ofNat_of_zero_le h1
  have := i64_and_nat a 255 (by omega) (by omega)
  rw [show a &&& 255 = a % 256 from Nat.and_two_pow_sub_one_eq_mod a 8] at this
  rw [show ((255 : Nat) : Int) = 255 from rfl] at this
  rw [this]; omega

theorem i64_or_byte (m y : Nat) (h1 : m < 4294967296) (h2 : y < 256) : bits .or .i64 ((m : Int) * 256) (y : Int) = ((256 * m + y : Nat) : Int) := by
  have := i64_or_nat (m * 256) y (by omega) (by omega)
  rw [nat_join 8 (m * 256) y (by omega) (by omega)] at this
  rw [show ((m * 256 : Nat) : Int) = (m : Int) * 256 by omega] at this
  rw [this]; omega

/-- the number that k bytes from a on tell, the greatest one first -/
def beN (s : ByteArray) (a : Nat) : Nat → Nat
  | 0 => 0
  | k + 1 => 256 * beN s a k + (s.data.toList.getD (a + k) 0).toNat

theorem beN_lt (s : ByteArray) (a k : Nat) : beN s a k < 256 ^ k := by
  induction k with
  | zero => simp [beN]
  | succ k ih => have := (s.data.toList.getD (a + k) 0).toNat_lt; simp only [beN, Nat.pow_succ]; omega

theorem pow256_le {k n : Nat} (h : k ≤ n) : 256 ^ k ≤ 256 ^ n := Nat.pow_le_pow_right (by omega) h

theorem getD_byte (s : ByteArray) (i : Nat) (h : i < s.size) : s.data.toList.getD i 0 = s[i] := by
  rw [List.getD_eq_getElem?_getD, List.getElem?_eq_getElem (by simpa using h)]; rfl

/-- a number's bytes, the greatest one first -/
def beL : Nat → Int → List Int
  | 0, _ => []
  | k + 1, n => beL k (n / 256) ++ [n % 256]

theorem beL_length (k : Nat) (n : Int) : (beL k n).length = k := by
  induction k generalizing n with
  | zero => rfl
  | succ k ih => simp [beL, ih]

/-- what Number says of the error -/
def numE (n b : Int) : Int := if b < 1 ∨ 4 < b then 7 else if n < 0 ∨ 256 ^ b.toNat ≤ n then 3 else 0
/-- what Number answers -/
def numS (n b : Int) : ByteArray := if numE n b = 0 then strOfNums (beL b.toNat n) else ⟨#[]⟩

theorem numE_kind {n b : Int} (h : b < 1 ∨ 4 < b) : numE n b = 7 := if_pos h
theorem numE_range {n b : Int} (h : ¬ (b < 1 ∨ 4 < b)) (h2 : n < 0 ∨ 256 ^ b.toNat ≤ n) : numE n b = 3 := by rw [numE, if_neg h, if_pos h2]
theorem numE_ok {n b : Int} (h : ¬ (b < 1 ∨ 4 < b)) (h2 : ¬ (n < 0 ∨ 256 ^ b.toNat ≤ n)) : numE n b = 0 := by rw [numE, if_neg h, if_neg h2]
theorem numS_ok {n b : Int} (h : numE n b = 0) : numS n b = strOfNums (beL b.toNat n) := if_pos h
theorem numS_no {n b : Int} (h : numE n b ≠ 0) : numS n b = ⟨#[]⟩ := if_neg h

theorem str_cat (xs ys : List Int) : strOfNums xs ++ strOfNums ys = strOfNums (xs ++ ys) := by
  apply ByteArray.ext; apply Array.toList_inj.1; simp [strOfNums]
theorem str_nil (s : ByteArray) : (⟨#[]⟩ : ByteArray) ++ s = s := by
  apply ByteArray.ext; apply Array.toList_inj.1; simp
theorem str_size1 (x : Int) : (strOfNums [x]).size = 1 := rfl

/-- a long number's bytes, the least ones first, so many more at the most -/
def longL : Nat → Nat → List Int
  | 0, n => [(n : Int) % 256]
  | f + 1, n => if n < 128 then [(n : Int)] else ((n : Int) % 128 + 128) :: longL f (n / 128)

theorem longL_length (f n : Nat) : (longL f n).length ≤ f + 1 := by
  induction f generalizing n with
  | zero => simp [longL]
  | succ f ih =>
    unfold longL
    split
    · simp
    · have := ih (n / 128); simp only [List.length_cons]; omega

theorem long_step {k q : Nat} (hk : k ≤ 3) (h : 128 ≤ q) (hq : q < 128 ^ (4 - k)) (l : List Int) :
    k + 1 ≤ 3 ∧ q / 128 < 128 ^ (4 - (k + 1)) ∧ (l ++ [(q : Int) % 128 + 128]) ++ longL (3 - (k + 1)) (q / 128) = l ++ longL (3 - k) q := by
  have h4 : k = 0 ∨ k = 1 ∨ k = 2 ∨ k = 3 := by omega
  rcases h4 with rfl | rfl | rfl | rfl
  · exact ⟨by omega, by omega, by rw [show longL (3 - 0) q = _ from if_neg (by omega)]; simp⟩
  · exact ⟨by omega, by omega, by rw [show longL (3 - 1) q = _ from if_neg (by omega)]; simp⟩
  · exact ⟨by omega, by omega, by rw [show longL (3 - 2) q = _ from if_neg (by omega)]; simp⟩
  · omega

theorem long_last {k q : Nat} (h : q < 128) : longL (3 - k) q = [(q : Int)] := by
  cases h3 : 3 - k with
  | zero => simp only [longL]; congr 1; omega
  | succ j => exact if_pos h

/-- the long number from a on: read so far are i bytes, n of it; at most so many more -/
def glGo (s : ByteArray) (a : Nat) : Nat → Nat → Int → Int × Int × Int
  | 0, _, _ => (0, 0, 1)
  | f + 1, i, n =>
    if s.size ≤ a + i then (0, 0, 8)
    else if 128 ≤ bt s (a + i) then glGo s a f (i + 1) (n + bt s (a + i) % 128 * 128 ^ i)
    else if bt s (a + i) = 0 ∧ 0 < i then (0, 0, 1)
    else (n + bt s (a + i) % 128 * 128 ^ i, i + 1, 0)

section
variable {s : ByteArray} {a k : Nat} {m : Int} {R : Int × Int × Int}
theorem gl_more (hk : k ≤ 3) (h1 : ¬ s.size ≤ a + k) (h2 : 128 ≤ bt s (a + k)) (hm : 0 ≤ m) (h : Hid (m < 128 ^ k ∧ glGo s a (4 - k) k m = R)) :
    0 ≤ m + bt s (a + k) % 128 * 128 ^ k ∧ m + bt s (a + k) % 128 * 128 ^ k ≤ 268435455 ∧ Hid (m + bt s (a + k) % 128 * 128 ^ k < 128 ^ (k + 1) ∧ glGo s a (4 - (k + 1)) (k + 1) (m + bt s (a + k) % 128 * 128 ^ k) = R) := by
  have h4 : k = 0 ∨ k = 1 ∨ k = 2 ∨ k = 3 := by omega
  have hb := bt_le s (a + k)
  obtain ⟨hlt, hg⟩ := h
  rcases h4 with rfl | rfl | rfl | rfl
  · have e := hg; rw [show (4 - 0) = 3 + 1 from rfl, glGo, if_neg h1, if_pos h2] at e
    exact ⟨by omega, by omega, by omega, e⟩
  · have e := hg; rw [show (4 - 1) = 2 + 1 from rfl, glGo, if_neg h1, if_pos h2] at e
    exact ⟨by omega, by omega, by omega, e⟩
  · have e := hg; rw [show (4 - 2) = 1 + 1 from rfl, glGo, if_neg h1, if_pos h2] at e
    exact ⟨by omega, by omega, by omega, e⟩
  · have e := hg; rw [show (4 - 3) = 0 + 1 from rfl, glGo, if_neg h1, if_pos h2] at e
    exact ⟨by omega, by omega, by omega, e⟩
theorem gl_succ (hk : k ≤ 3) : 4 - k = (3 - k) + 1 := by omega
theorem gl_short (hk : k ≤ 3) (h1 : s.size ≤ a + k) (h : Hid (m < 128 ^ k ∧ glGo s a (4 - k) k m = R)) : R = (0, 0, 8) := by
  rw [← h.2, gl_succ hk, glGo, if_pos h1]
theorem gl_form (hk : k ≤ 3) (h1 : ¬ s.size ≤ a + k) (h2 : ¬ 128 ≤ bt s (a + k)) (h3 : bt s (a + k) = 0 ∧ 0 < k) (h : Hid (m < 128 ^ k ∧ glGo s a (4 - k) k m = R)) : R = (0, 0, 1) := by
  rw [← h.2, gl_succ hk, glGo, if_neg h1, if_neg h2, if_pos h3]
theorem gl_done (hk : k ≤ 3) (h1 : ¬ s.size ≤ a + k) (h2 : ¬ 128 ≤ bt s (a + k)) (h3 : ¬ (bt s (a + k) = 0 ∧ 0 < k)) (h : Hid (m < 128 ^ k ∧ glGo s a (4 - k) k m = R)) : R = (m + bt s (a + k) % 128 * 128 ^ k, (k : Int) + 1, 0) := by
  rw [← h.2, gl_succ hk, glGo, if_neg h1, if_neg h2, if_neg h3]
theorem gl_four (h : Hid (m < 128 ^ 4 ∧ glGo s a (4 - 4) 4 m = R)) : R = (0, 0, 1) := h.2.symm
end
end Go.Proofs.YtnhcecgmcmcioaaDoor
