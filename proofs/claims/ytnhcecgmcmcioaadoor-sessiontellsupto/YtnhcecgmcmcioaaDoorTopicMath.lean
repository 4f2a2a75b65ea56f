/-
  Plain facts on topics and filters that the proofs on package topic use (no program in it).
-/
import Derived.Lib.SplitLaws
import Derived.Lib.IndexBytes
import Derived.PlainAid
import Derived.Test.YtnhcecgmcmcioaaDoorWireMath
import Derived.Laws.Strings
namespace Go.Proofs.YtnhcecgmcmcioaaDoor
open Go.RowKit Go.PlainAid

theorem txt_eq (s t : ByteArray) : (s.toList == t.toList) = decide (s = t) := by
  rw [Bool.eq_iff_iff, beq_iff_eq, decide_eq_true_eq, ByteArray.toList_eq, ByteArray.toList_eq]
  constructor
  · intro h; exact ByteArray.ext (Array.toList_inj.1 h)
  · intro h; rw [h]
theorem txt_no {s : ByteArray} {l : List UInt8} (h : s ≠ ⟨l.toArray⟩) : (s.toList == l) = false := by
  have := txt_eq s ⟨l.toArray⟩
  rw [ByteArray.toList_eq ⟨l.toArray⟩] at this
  simpa [h] using this
theorem txt_yes {s : ByteArray} {l : List UInt8} (h : s = ⟨l.toArray⟩) : (s.toList == l) = true := by
  subst h; rw [ByteArray.toList_eq]; simp

/-- may a byte stand in a topic's level? -/
def plainC (n : Int) : Bool := decide (33 ≤ n) && decide (n ≤ 126) && !(n == 43) && !(n == 35)
/-- are the first k bytes such? -/
def plainTo (s : ByteArray) : Nat → Bool
  | 0 => true
  | k + 1 => plainTo s k && plainC (bt s k)
def plain (s : ByteArray) : Bool := plainTo s s.size

theorem plainTo_false {s : ByteArray} {k n : Nat} (h : k ≤ n) (hk : plainTo s k = false) : plainTo s n = false := by
  induction n with
  | zero => have : k = 0 := by omega
            subst this; exact hk
  | succ n ih =>
    by_cases e : k = n + 1
    · subst e; exact hk
    · rw [plainTo, ih (by omega)]; rfl

theorem plain_no {s : ByteArray} {k : Nat} (hk : k < s.size) (h : plainC (bt s k) = false) : plain s = false :=
  plainTo_false (k := k + 1) hk (by rw [plainTo, h, Bool.and_false])
theorem plain_more {s : ByteArray} {k : Nat} (hk : plainTo s k = true) (h : plainC (bt s k) = true) : plainTo s (k + 1) = true := by rw [plainTo, hk, h]; rfl

/-- the levels of a text, as bytes -/
def lvL : List UInt8 → List (List UInt8)
  | [] => [[]]
  | c :: r => if c = 47 then [] :: lvL r else match lvL r with
    | [] => [[c]]
    | h :: t => (c :: h) :: t

theorem lvL_ne (l : List UInt8) : lvL l ≠ [] := by
  cases l with
  | nil => simp [lvL]
  | cons c r =>
    unfold lvL
    split
    · simp
    · split <;> simp

theorem lv_none (l : List UInt8) (h : Lib.indexByte l 47 = -1) : lvL l = [l] := by
  induction l with
  | nil => rfl
  | cons c r ih =>
    unfold Lib.indexByte at h
    by_cases hc : c = 47
    · subst hc; simp at h
    · rw [if_neg (by simpa using hc)] at h
      by_cases hr : Lib.indexByte r 47 = -1
      · rw [lvL, if_neg hc, ih hr]
      · have := Lib.indexByte_ge r 47
        rw [if_neg (by simpa using hr)] at h
        omega

theorem lv_cut (l : List UInt8) (i : Nat) (h : Lib.indexByte l 47 = i) : lvL l = l.take i :: lvL (l.drop (i + 1)) := by
  induction l generalizing i with
  | nil => simp [Lib.indexByte] at h
  | cons c r ih =>
    unfold Lib.indexByte at h
    by_cases hc : c = 47
    · subst hc
      have : i = 0 := by simp at h; omega
      subst this
      simp [lvL]
    · rw [if_neg (by simpa using hc)] at h
      by_cases hr : Lib.indexByte r 47 = -1
      · rw [if_pos (by simpa using hr)] at h; omega
      · rw [if_neg (by simpa using hr)] at h
        have hge := Lib.indexByte_ge r 47
        obtain ⟨k, hk⟩ : ∃ k : Nat, Lib.indexByte r 47 = k := ⟨(Lib.indexByte r 47).toNat, by omega⟩
        have : i = k + 1 := by omega
        subst this
        rw [lvL, if_neg hc, ih k hk]
        simp

theorem count_none (l : List UInt8) (h : l.count 47 = 0) : Lib.indexByte l 47 = -1 := by
  induction l with
  | nil => rfl
  | cons c r ih =>
    have hc : c ≠ 47 := fun e => by subst e; simp at h
    rw [List.count_cons_of_ne hc] at h
    rw [Lib.indexByte, if_neg (by simpa using hc), if_pos (by rw [ih h]; rfl)]

theorem count_cut (l : List UInt8) (i : Nat) (h : Lib.indexByte l 47 = i) : l.count 47 = 1 + (l.drop (i + 1)).count 47 := by
  induction l generalizing i with
  | nil => simp [Lib.indexByte] at h
  | cons c r ih =>
    unfold Lib.indexByte at h
    by_cases hc : c = 47
    · subst hc
      have : i = 0 := by simp at h; omega
      subst this
      simp; omega
    · rw [if_neg (by simpa using hc)] at h
      by_cases hr : Lib.indexByte r 47 = -1
      · rw [if_pos (by simpa using hr)] at h; omega
      · rw [if_neg (by simpa using hr)] at h
        have hge := Lib.indexByte_ge r 47
        obtain ⟨k, hk⟩ : ∃ k : Nat, Lib.indexByte r 47 = k := ⟨(Lib.indexByte r 47).toNat, by omega⟩
        have : i = k + 1 := by omega
        subst this
        rw [List.count_cons_of_ne hc, ih k hk]
        simp

theorem splitK_lv (k : Nat) : ∀ l : List UInt8, l.count 47 ≤ k → Lib.splitK [47] 0 k l = lvL l := by
  induction k with
  | zero => intro l h; rw [lv_none l (count_none l (by omega))]; rfl
  | succ k ih =>
    intro l h
    rw [Lib.splitK, Lib.index_one]
    by_cases hr : Lib.indexByte l 47 = -1
    · rw [if_pos (by simpa using hr), lv_none l hr]
    · have hge := Lib.indexByte_ge l 47
      obtain ⟨i, hi⟩ : ∃ i : Nat, Lib.indexByte l 47 = i := ⟨(Lib.indexByte l 47).toNat, by omega⟩
      have hc := count_cut l i hi
      rw [if_neg (by simpa using hr), hi, Int.toNat_natCast, Nat.add_zero, List.length_singleton, ih _ (by omega), lv_cut l i hi]

/-- the levels of a text -/
def LV (s : ByteArray) : List ByteArray := (lvL s.data.toList).map fun l => ⟨l.toArray⟩

theorem LV_split (s : ByteArray) : Lib.splitB ⟨#[47]⟩ 0 (Lib.countB s ⟨#[47]⟩) s = LV s := by
  have h := Lib.splitB_data ⟨#[47]⟩ 0 (Lib.countB s ⟨#[47]⟩) s
  have hc : Lib.countB s ⟨#[47]⟩ = s.data.toList.count 47 := Lib.count_one 47 _
  have e : (⟨#[47]⟩ : ByteArray).data.toList = [47] := rfl
  rw [e, splitK_lv _ _ (by omega)] at h
  rw [LV, ← h, List.map_map]
  conv => lhs; rw [← List.map_id (Lib.splitB ⟨#[47]⟩ 0 (Lib.countB s ⟨#[47]⟩) s)]
  apply List.map_congr_left
  intro x _
  rfl

theorem LV_length (s : ByteArray) : Lib.countB s ⟨#[47]⟩ + 1 = (LV s).length := by
  rw [← LV_split]; exact (Lib.splitB_all ⟨#[47]⟩ (by decide) 0 _ s rfl).symm

theorem lvL_size (l : List UInt8) : ∀ x ∈ lvL l, x.length ≤ l.length := by
  induction l with
  | nil => intro x hx; simp [lvL] at hx; simp [hx]
  | cons c r ih =>
    intro x hx
    unfold lvL at hx
    split at hx
    · rcases List.mem_cons.1 hx with h | h
      · simp [h]
      · have := ih x h; simp; omega
    · split at hx
      · rename_i h; exact absurd h (lvL_ne r)
      · rename_i h t e
        rcases List.mem_cons.1 hx with h' | h'
        · have := ih h (by rw [e]; exact List.mem_cons_self ..)
          subst h'; simpa using this
        · have := ih x (by rw [e]; exact List.mem_cons_of_mem _ h'); simp; omega

theorem lvS_size (s : ByteArray) : ∀ x ∈ LV s, x.size ≤ s.size := by
  intro x hx
  obtain ⟨l, hl, rfl⟩ := List.mem_map.1 hx
  have := lvL_size _ l hl
  have e : s.data.toList.length = s.size := by simp
  show l.toArray.size ≤ s.size
  rw [List.size_toArray]; omega
theorem LV_size (s : ByteArray) (h : s.size ≤ maxLen) : ∀ x ∈ LV s, x.size ≤ maxLen := by
  intro x hx
  obtain ⟨l, hl, rfl⟩ := List.mem_map.1 hx
  have := lvL_size _ l hl
  have e : s.data.toList.length = s.size := by simp
  show l.toArray.size ≤ maxLen
  rw [List.size_toArray]; omega

def nameF (l : ByteArray) (_ : Bool) : Bool := plain l
def filtF (l : ByteArray) (last : Bool) : Bool := decide (l = ⟨#[43]⟩) || (decide (l = ⟨#[35]⟩) && last) || plain l

/-- are the first k levels, of n, as they may be? -/
def okTo (p : ByteArray → Bool → Bool) (l : List ByteArray) (n : Nat) : Nat → Bool
  | 0 => true
  | k + 1 => okTo p l n k && p (l.getD k ⟨#[]⟩) (k + 1 == n)

/-- what is wrong with a text -/
def chk (p : ByteArray → Bool → Bool) (s : ByteArray) : Int :=
  if s.size = 0 then 1 else if 60 < s.size then 2 else if 6 < (LV s).length then 2 else if okTo p (LV s) (LV s).length (LV s).length = true then 0 else 1

theorem chk_empty (p : ByteArray → Bool → Bool) {s : ByteArray} (h : s.size = 0) : chk p s = 1 := if_pos h
theorem chk_long (p : ByteArray → Bool → Bool) {s : ByteArray} (h0 : ¬ s.size = 0) (h : 60 < s.size) : chk p s = 2 := by rw [chk, if_neg h0, if_pos h]
theorem chk_many (p : ByteArray → Bool → Bool) {s : ByteArray} (h0 : ¬ s.size = 0) (h : ¬ 60 < s.size) (h2 : 6 < (LV s).length) : chk p s = 2 := by rw [chk, if_neg h0, if_neg h, if_pos h2]
theorem chk_lv (p : ByteArray → Bool → Bool) {s : ByteArray} (h0 : ¬ s.size = 0) (h : ¬ 60 < s.size) (h2 : ¬ 6 < (LV s).length) :
    chk p s = if okTo p (LV s) (LV s).length (LV s).length = true then 0 else 1 := by rw [chk, if_neg h0, if_neg h, if_neg h2]
theorem okTo_next {p : ByteArray → Bool → Bool} {l : List ByteArray} {k m : Nat} (hk : k < l.length) (h : okTo p l m k = true) : okTo p l m (k + 1) = p l[k] (k + 1 == m) := by
  rw [okTo, h, Bool.true_and, List.getD_eq_getElem?_getD, List.getElem?_eq_getElem hk]; rfl
theorem okTo_end {p : ByteArray → Bool → Bool} {l : List ByteArray} {k : Nat} (hk : k = l.length) (h : Hid (okTo p l l.length k = true)) : Hid (okTo p l l.length l.length = true) := by
  subst hk; exact h
theorem okTo_false {p : ByteArray → Bool → Bool} {l : List ByteArray} {m k n : Nat} (h : k ≤ n) (hk : okTo p l m k = false) : okTo p l m n = false := by
  induction n with
  | zero => have : k = 0 := by omega
            subst this; exact hk
  | succ n ih =>
    by_cases e : k = n + 1
    · subst e; exact hk
    · rw [okTo, ih (by omega)]; rfl

/-- is filter for all that other is for? -/
def takes : List ByteArray → List ByteArray → Bool
  | [], o => o.isEmpty
  | x :: f, o => if x = ⟨#[35]⟩ then true else match o with
    | [] => false
    | y :: o' => if y = ⟨#[35]⟩ then false else if x ≠ ⟨#[43]⟩ ∧ x ≠ y then false else takes f o'

theorem takes_hash {x : ByteArray} (F O : List ByteArray) (h : x = ⟨#[35]⟩) : takes (x :: F) O = true := by
  rw [takes.eq_def]; exact if_pos h
theorem takes_nil {x : ByteArray} (F : List ByteArray) (h : x ≠ ⟨#[35]⟩) : takes (x :: F) [] = false := by
  rw [takes.eq_def]; exact if_neg h
theorem takes_cons {x : ByteArray} (y : ByteArray) (F O : List ByteArray) (h : x ≠ ⟨#[35]⟩) : takes (x :: F) (y :: O) = if y = ⟨#[35]⟩ then false else if x ≠ ⟨#[43]⟩ ∧ x ≠ y then false else takes F O := by
  rw [takes.eq_def]; exact if_neg h
theorem takes_at {F O : List ByteArray} {k : Nat} {R : Bool} (hk : k < F.length) (h : takes (F.drop k) (O.drop k) = R) :
    R = if F[k] = ⟨#[35]⟩ then true else match O.drop k with
      | [] => false
      | y :: o' => if y = ⟨#[35]⟩ then false else if F[k] ≠ ⟨#[43]⟩ ∧ F[k] ≠ y then false else takes (F.drop (k + 1)) o' := by
  rw [← h, List.drop_eq_getElem_cons hk]
  rfl
theorem takes_other {x : ByteArray} {O : List ByteArray} {k : Nat} {g : List ByteArray → Bool} (hk : k < O.length) :
    (match O.drop k with
      | [] => false
      | y :: o' => if y = ⟨#[35]⟩ then false else if x ≠ ⟨#[43]⟩ ∧ x ≠ y then false else g o') =
    (if O[k] = ⟨#[35]⟩ then false else if x ≠ ⟨#[43]⟩ ∧ x ≠ O[k] then false else g (O.drop (k + 1))) := by
  rw [List.drop_eq_getElem_cons hk]
theorem takes_out {x : ByteArray} {O : List ByteArray} {k : Nat} {g : List ByteArray → Bool} (hk : O.length ≤ k) :
    (match O.drop k with
      | [] => false
      | y :: o' => if y = ⟨#[35]⟩ then false else if x ≠ ⟨#[43]⟩ ∧ x ≠ y then false else g o') = false := by
  rw [List.drop_eq_nil_of_le hk]
theorem takes_end {F O : List ByteArray} {k : Nat} {R : Bool} (hk : k = F.length) (hk2 : k ≤ O.length) (h : takes (F.drop k) (O.drop k) = R) : R = ((F.length : Int) == (O.length : Int)) := by
  rw [← h, List.drop_eq_nil_of_le (by omega), takes, Bool.eq_iff_iff, beq_iff_eq, List.isEmpty_iff, List.drop_eq_nil_iff]
  omega
end Go.Proofs.YtnhcecgmcmcioaaDoor
