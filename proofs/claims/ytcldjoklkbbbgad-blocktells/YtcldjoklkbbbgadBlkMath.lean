/-
  Payloads in blocks, as plain data: where a block begins, what is cut, what is joined (no program in it).
-/
import Derived.Test.YtcldjoklkbbbgadWireMath
namespace Go.Proofs.Ytcldjoklkbbbgad
open Go.RowKit Go.PlainAid

/-- a block -/
structure Bk where
  num : Int
  more : Bool
  size : Int
deriving DecidableEq

def bkV (b : Bk) : Value := .agg #[.int .i64 b.num, .bool b.more, .int .i64 b.size]
def bkZ : Bk := ⟨0, false, 0⟩
/-- may it be a size? -/
def szOk (s : Int) : Bool := decide (0 ≤ s) && decide (s ≤ 6)
/-- bytes of a block -/
def room (s : Int) : Nat := 2 ^ (s.toNat + 4)
/-- the number of the last block of so many bytes -/
def lastB (n : Nat) (s : Int) : Nat := (n - 1) / room s

theorem szOk_iff {s : Int} : szOk s = true ↔ 0 ≤ s ∧ s ≤ 6 := by simp [szOk]
theorem room_pos (s : Int) : 0 < room s := Nat.two_pow_pos _
theorem room_ge (s : Int) : 16 ≤ room s := by
  have : 2 ^ 4 ≤ 2 ^ (s.toNat + 4) := Nat.pow_le_pow_right (by omega) (by omega)
  exact this
theorem room_le {s : Int} (h : s ≤ 6) : room s ≤ 1024 := by
  have : 2 ^ (s.toNat + 4) ≤ 2 ^ 10 := Nat.pow_le_pow_right (by omega) (by omega)
  exact this
theorem room_twice {s : Int} (h : 0 ≤ s) : room (s + 1) = 2 * room s := by
  unfold room
  rw [show (s + 1).toNat + 4 = (s.toNat + 4) + 1 by omega, Nat.pow_succ]
  omega

/-- what Cut answers -/
def cutE (p : ByteArray) (n s : Int) : Int :=
  if 200 < p.size then 2 else if szOk s = false ∨ n < 0 then 3 else if (lastB p.size s : Int) < n then 5 else 0
def cutS (p : ByteArray) (n s : Int) : ByteArray := p.extract (n.toNat * room s) (min (n.toNat * room s + room s) p.size)
def cutB (p : ByteArray) (n s : Int) : Bk := ⟨n, decide (n < lastB p.size s), s⟩
def cutAS (p : ByteArray) (n s : Int) : ByteArray := if cutE p n s = 0 then cutS p n s else ⟨#[]⟩
def cutAB (p : ByteArray) (n s : Int) : Bk := if cutE p n s = 0 then cutB p n s else bkZ

def bkAt (bs : List Bk) (i : Nat) : Bk := (bs[i]?).getD bkZ
def psAt (ps : List ByteArray) (i : Nat) : ByteArray := (ps[i]?).getD ⟨#[]⟩
theorem bkAt_eq (bs : List Bk) (i : Nat) (h : i < bs.length) : bkAt bs i = bs[i] := by simp [bkAt, h]
theorem psAt_eq (ps : List ByteArray) (i : Nat) (h : i < ps.length) : psAt ps i = ps[i] := by simp [psAt, h]

/-- is a block in its place? -/
def lineAt (bs : List Bk) (i : Nat) : Bool := decide ((bkAt bs i).size = (bkAt bs 0).size) && decide ((bkAt bs i).num = i) && ((bkAt bs i).more == decide (i + 1 < bs.length))
/-- has its piece as many bytes as it may have? -/
def fillAt (ps : List ByteArray) (bs : List Bk) (i : Nat) : Bool :=
  decide ((psAt ps i).size ≤ room (bkAt bs i).size) && !((bkAt bs i).more && decide ((psAt ps i).size < room (bkAt bs i).size)) && !(decide (0 < i) && decide ((psAt ps i).size = 0))
def upTo (f : Nat → Bool) (n : Nat) : Bool := (List.range n).all f
theorem upTo_zero (f : Nat → Bool) : upTo f 0 = true := rfl
theorem upTo_succ (f : Nat → Bool) (n : Nat) : upTo f (n + 1) = (upTo f n && f n) := by simp [upTo, List.range_succ]
theorem upTo_iff {f : Nat → Bool} {n : Nat} : upTo f n = true ↔ ∀ i, i < n → f i = true := by simp [upTo]
theorem upTo_no {f : Nat → Bool} {n : Nat} (k : Nat) (hk : k < n) (h : f k = false) : upTo f n = false := by
  cases e : upTo f n with
  | false => rfl
  | true => rw [upTo_iff.1 e k hk] at h; cases h
theorem upTo_more {f : Nat → Bool} {n : Nat} (h : upTo f n = true) (h2 : f n = true) : upTo f (n + 1) = true := by rw [upTo_succ, h, h2]; rfl

def linesOk (bs : List Bk) : Bool := upTo (lineAt bs) bs.length
def fillsOk (ps : List ByteArray) (bs : List Bk) : Bool := upTo (fillAt ps bs) bs.length
def sizesOk (bs : List Bk) : Bool := upTo (fun i => szOk (bkAt bs i).size) bs.length

/-- all the pieces' bytes -/
def cat : List ByteArray → ByteArray
  | [] => ⟨#[]⟩
  | a :: l => a ++ cat l
theorem ba_assoc (a b c : ByteArray) : a ++ b ++ c = a ++ (b ++ c) := by
  apply ByteArray.ext; apply Array.toList_inj.1; simp
theorem ba_nil (a : ByteArray) : a ++ (⟨#[]⟩ : ByteArray) = a := by
  apply ByteArray.ext; apply Array.toList_inj.1; simp
theorem cat_append (a b : List ByteArray) : cat (a ++ b) = cat a ++ cat b := by
  induction a with
  | nil => exact (str_nil _).symm
  | cons x a ih => simp only [List.cons_append, cat, ih, ba_assoc]
theorem cat_snoc (l : List ByteArray) (n : Nat) (h : n < l.length) : cat (l.take (n + 1)) = cat (l.take n) ++ l[n] := by
  rw [List.take_succ_eq_append_getElem h, cat_append, cat, cat, ba_nil]
theorem cat_take_le (l : List ByteArray) (n : Nat) : (cat (l.take n)).size ≤ (cat l).size := by
  have : cat l = cat (l.take n) ++ cat (l.drop n) := by rw [← cat_append, List.take_append_drop]
  rw [this, ByteArray.size_append]
  omega

/-- what joined answers -/
def catE (ps : List ByteArray) : Int := if 200 < (cat ps).size then 2 else 0
/-- what Join answers -/
def joinE (ps : List ByteArray) (bs : List Bk) : Int :=
  if ps.length = 0 ∨ ps.length ≠ bs.length then 1 else if sizesOk bs = false then 3
  else if linesOk bs = false ∨ fillsOk ps bs = false then 4 else catE ps
def joinS (ps : List ByteArray) (bs : List Bk) : ByteArray := if joinE ps bs = 0 then cat ps else ⟨#[]⟩

/-- texts lie there -/
def StrsIn (w : World) (ao : Option Addr) (l : List ByteArray) : Prop :=
  l = [] ∨ ∃ b o, ao = some ⟨b, o, none⟩ ∧ b < w.heap.size ∧ ∀ i (h : i < l.length), w.cell? ⟨b, o + i, none⟩ = some (.string l[i])
/-- blocks lie there -/
def BksIn (w : World) (ao : Option Addr) (l : List Bk) : Prop :=
  l = [] ∨ ∃ b o, ao = some ⟨b, o, none⟩ ∧ b < w.heap.size ∧ ∀ i (h : i < l.length), w.cell? ⟨b, o + i * 3, none⟩ = some (.int .i64 l[i].num) ∧ w.cell? ⟨b, o + i * 3 + 1, none⟩ = some (.bool l[i].more) ∧ w.cell? ⟨b, o + i * 3 + 2, none⟩ = some (.int .i64 l[i].size)
theorem StrsIn.below {w w' : World} {ao : Option Addr} {l : List ByteArray} (h : StrsIn w ao l) (hb : Below w.heap.size w w') : StrsIn w' ao l := by
  rcases h with h | ⟨b, o, ha, hl, hc⟩
  · exact .inl h
  · exact .inr ⟨b, o, ha, Nat.lt_of_lt_of_le hl hb.size, fun i hi => (hb.cell (p := ⟨b, _, none⟩) hl).trans (hc i hi)⟩
theorem BksIn.below {w w' : World} {ao : Option Addr} {l : List Bk} (h : BksIn w ao l) (hb : Below w.heap.size w w') : BksIn w' ao l := by
  rcases h with h | ⟨b, o, ha, hl, hc⟩
  · exact .inl h
  · exact .inr ⟨b, o, ha, Nat.lt_of_lt_of_le hl hb.size, fun i hi => ⟨(hb.cell (p := ⟨b, _, none⟩) hl).trans (hc i hi).1, (hb.cell (p := ⟨b, _, none⟩) hl).trans (hc i hi).2.1, (hb.cell (p := ⟨b, _, none⟩) hl).trans (hc i hi).2.2⟩⟩

theorem cutE_ok {p : ByteArray} {n s : Int} (h : cutE p n s = 0) : p.size ≤ 200 ∧ (0 ≤ s ∧ s ≤ 6) ∧ 0 ≤ n ∧ n ≤ lastB p.size s := by
  unfold cutE at h
  split at h
  · simp at h
  · split at h
    · simp at h
    · split at h
      · simp at h
      · rename_i h1 h2 h3
        have : szOk s = true := by
          cases e : szOk s with
          | true => rfl
          | false => exact absurd (.inl e) h2
        exact ⟨by omega, szOk_iff.1 this, by omega, by omega⟩
theorem lastB_mul (n : Nat) (s : Int) : lastB n s * room s ≤ n - 1 := Nat.div_mul_le_self _ _
theorem lastB_lt (n : Nat) (s : Int) : n ≤ (lastB n s + 1) * room s := by
  have h1 := Nat.div_add_mod (n - 1) (room s)
  have h2 := Nat.mod_lt (n - 1) (room_pos s)
  unfold lastB
  rw [Nat.add_mul, Nat.mul_comm _ (room s)]
  omega
theorem lastB_le (n : Nat) (s : Int) (h : n ≤ 200) : lastB n s ≤ 12 := by
  have h1 := lastB_mul n s
  have h2 := room_ge s
  have h3 : lastB n s * 16 ≤ lastB n s * room s := Nat.mul_le_mul_left _ h2
  omega
theorem cut_from {n : Nat} {s : Int} {k : Nat} (h : k ≤ lastB n s) : k * room s ≤ n - 1 := Nat.le_trans (Nat.mul_le_mul_right _ h) (lastB_mul n s)
/-- a block that has more behind it is full -/
theorem cut_full {n : Nat} {s : Int} {k : Nat} (h : k < lastB n s) : k * room s + room s ≤ n - 1 := by
  have := cut_from (k := k + 1) h
  rw [Nat.add_mul, Nat.one_mul] at this
  exact this
theorem cutS_size (p : ByteArray) (k : Nat) (s : Int) : (cutS p k s).size = min (k * room s + room s) p.size - k * room s := by
  simp only [cutS, ByteArray.size_extract, Int.toNat_natCast]
  omega
theorem cutS_full {p : ByteArray} {s : Int} {k : Nat} (h : k < lastB p.size s) : (cutS p k s).size = room s := by
  have h1 := cut_full h
  rw [cutS_size]
  omega
theorem cutS_le (p : ByteArray) (k : Nat) (s : Int) : (cutS p k s).size ≤ room s := by
  rw [cutS_size]
  omega
theorem cutS_some {p : ByteArray} {s : Int} {k : Nat} (h : k ≤ lastB p.size s) (hk : 0 < k) : (cutS p k s).size ≠ 0 := by
  have h1 := cut_from h
  have h2 := room_pos s
  have h3 : 1 * room s ≤ k * room s := Nat.mul_le_mul_right _ hk
  rw [cutS_size]
  omega

/-- the pieces and the blocks of a payload, so many of them -/
def cutsS (p : ByteArray) (s : Int) (k : Nat) : List ByteArray := (List.range k).map fun (i : Nat) => cutS p i s
def cutsB (p : ByteArray) (s : Int) (k : Nat) : List Bk := (List.range k).map fun (i : Nat) => cutB p i s
theorem cutsS_len (p : ByteArray) (s : Int) (k : Nat) : (cutsS p s k).length = k := by simp [cutsS]
theorem cutsB_len (p : ByteArray) (s : Int) (k : Nat) : (cutsB p s k).length = k := by simp [cutsB]
theorem cutsS_succ (p : ByteArray) (s : Int) (k : Nat) : cutsS p s (k + 1) = cutsS p s k ++ [cutS p k s] := by simp [cutsS, List.range_succ]
theorem cutsB_succ (p : ByteArray) (s : Int) (k : Nat) : cutsB p s (k + 1) = cutsB p s k ++ [cutB p k s] := by simp [cutsB, List.range_succ]
theorem psAt_cuts (p : ByteArray) (s : Int) (k i : Nat) (h : i < k) : psAt (cutsS p s k) i = cutS p i s := by
  rw [psAt_eq _ _ (by rw [cutsS_len]; exact h)]; simp [cutsS]
theorem bkAt_cuts (p : ByteArray) (s : Int) (k i : Nat) (h : i < k) : bkAt (cutsB p s k) i = cutB p i s := by
  rw [bkAt_eq _ _ (by rw [cutsB_len]; exact h)]; simp [cutsB]
theorem cat_cuts (p : ByteArray) (s : Int) : ∀ k, cat (cutsS p s k) = p.extract 0 (min (k * room s) p.size)
  | 0 => by
    apply ByteArray.ext; apply Array.toList_inj.1
    simp [cutsS, cat]
  | k + 1 => by
    rw [cutsS_succ, cat_append, cat_cuts p s k, cat, cat, ba_nil]
    apply ByteArray.ext; apply Array.toList_inj.1
    simp only [cutS, ByteArray.data_append, ByteArray.data_extract, Array.toList_append, Array.toList_extract, List.extract_eq_take_drop, Int.toNat_natCast, Nat.sub_zero, List.drop_zero, Nat.add_mul, Nat.one_mul]
    have hl : p.data.toList.length = p.size := by simp
    revert hl
    generalize p.data.toList = l
    generalize p.size = n
    generalize k * room s = a
    generalize room s = r
    intro hl
    apply List.ext_getElem?
    intro i
    simp only [List.getElem?_append, List.length_take, List.getElem?_take, List.getElem?_drop, hl]
    by_cases h1 : i < min (min a n) n
    · rw [if_pos h1, if_pos (by omega), if_pos (by omega)]
    · rw [if_neg h1]
      by_cases h2 : i < min (a + r) n
      · rw [if_pos (by omega), if_pos h2]
        congr 1
        omega
      · rw [if_neg (by omega), if_neg h2]
theorem cat_all (p : ByteArray) (s : Int) : cat (cutsS p s (lastB p.size s + 1)) = p := by
  rw [cat_cuts]
  have := lastB_lt p.size s
  rw [Nat.min_eq_right this]
  apply ByteArray.ext; apply Array.toList_inj.1
  simp

/-- all blocks that are cut are joined to what they were -/
theorem join_cuts {p : ByteArray} {s : Int} (hp : p.size ≤ 200) (h0 : 0 ≤ s) (h6 : s ≤ 6) : joinE (cutsS p s (lastB p.size s + 1)) (cutsB p s (lastB p.size s + 1)) = 0 := by
  unfold joinE
  rw [if_neg (by rw [cutsS_len, cutsB_len]; omega)]
  have hs : sizesOk (cutsB p s (lastB p.size s + 1)) = true := upTo_iff.2 fun i hi => by
    rw [cutsB_len] at hi
    show szOk (bkAt _ i).size = true
    rw [bkAt_cuts _ _ _ _ hi]
    exact szOk_iff.2 ⟨h0, h6⟩
  have hl : linesOk (cutsB p s (lastB p.size s + 1)) = true := upTo_iff.2 fun i hi => by
    rw [cutsB_len] at hi
    unfold lineAt
    rw [bkAt_cuts _ _ _ _ hi, bkAt_cuts _ _ _ _ (by omega), cutsB_len]
    simp only [cutB, decide_true, Bool.true_and, beq_iff_eq]
    apply decide_eq_decide.2
    omega
  have hf : fillsOk (cutsS p s (lastB p.size s + 1)) (cutsB p s (lastB p.size s + 1)) = true := upTo_iff.2 fun i hi => by
    rw [cutsB_len] at hi
    unfold fillAt
    rw [bkAt_cuts _ _ _ _ hi, psAt_cuts _ _ _ _ hi]
    have e1 := cutS_le p i s
    have e2 : ((i : Int) < lastB p.size s ∧ (cutS p i s).size < room s) = False := by
      apply eq_false
      rintro ⟨h, h'⟩
      have := cutS_full (p := p) (s := s) (k := i) (by omega)
      omega
    have e3 : (0 < i ∧ (cutS p i s).size = 0) = False := by
      apply eq_false
      rintro ⟨h, h'⟩
      exact cutS_some (p := p) (s := s) (k := i) (by omega) h h'
    show (decide ((cutS p i s).size ≤ room s) && !(decide ((i : Int) < lastB p.size s) && decide ((cutS p i s).size < room s)) && !(decide (0 < i) && decide ((cutS p i s).size = 0))) = true
    rw [← Bool.decide_and, ← Bool.decide_and, decide_eq_true e1]
    simp only [e2, e3]
    rfl
  rw [hs, hl, hf]
  simp only [Bool.true_eq_false, if_false, or_self]
  unfold catE
  rw [cat_all, if_neg (by omega)]
/-- without the last one they are not -/
theorem join_less (p : ByteArray) (s : Int) : joinE (cutsS p s (lastB p.size s)) (cutsB p s (lastB p.size s)) ≠ 0 := by
  unfold joinE
  rw [cutsS_len, cutsB_len]
  by_cases hz : lastB p.size s = 0
  · rw [if_pos (.inl hz)]; decide
  · rw [if_neg (by omega)]
    split
    · decide
    · have hl : linesOk (cutsB p s (lastB p.size s)) = false := by
        refine upTo_no (lastB p.size s - 1) (by rw [cutsB_len]; omega) ?_
        unfold lineAt
        rw [bkAt_cuts _ _ _ _ (by omega), bkAt_cuts _ _ _ _ (by omega), cutsB_len]
        have e1 : decide ((↑(lastB p.size s - 1) : Int) < ↑(lastB p.size s)) = true := by simp; omega
        have e2 : decide (lastB p.size s - 1 + 1 < lastB p.size s) = false := by simp; omega
        simp only [cutB, e1, e2]
        simp
      rw [if_pos (.inl hl)]; decide
end Go.Proofs.Ytcldjoklkbbbgad
