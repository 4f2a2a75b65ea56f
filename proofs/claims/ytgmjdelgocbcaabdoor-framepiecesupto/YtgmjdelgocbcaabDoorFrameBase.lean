/-
  Packets out of a stream, as plain data: what comes, what is left, which error; and in pieces (no program in it).
-/
import Derived.Test.YtgmjdelgocbcaabDoorPacketDec
import Derived.Test.YtgmjdelgocbcaabDoorWireBackMath
import Derived.Deep.AppendLies
namespace Go.Proofs.YtgmjdelgocbcaabDoor
open Go.RowKit Go.PlainAid

theorem bt_app (s t : ByteArray) (k : Nat) (hk : k < s.size) : bt (s ++ t) k = bt s k := by
  rw [bt_getD, bt_getD]
  have e : s.data.toList.length = s.size := by simp
  simp only [ByteArray.data_append, Array.toList_append, List.getD_eq_getElem?_getD]
  rw [List.getElem?_append_left (by omega)]
theorem glGo_app (s t : ByteArray) (a : Nat) : ∀ (f i : Nat) (n : Int), (glGo s a f i n).2.2 ≠ 8 → glGo (s ++ t) a f i n = glGo s a f i n := by
  intro f
  induction f with
  | zero => intro i n _; rfl
  | succ f ih =>
    intro i n h
    rw [glGo] at h ⊢
    rw [glGo]
    by_cases h1 : s.size ≤ a + i
    · rw [if_pos h1] at h; exact absurd rfl h
    · have h1' : ¬ (s ++ t).size ≤ a + i := by rw [ByteArray.size_append]; omega
      rw [if_neg h1] at h
      rw [if_neg h1, if_neg h1', bt_app s t (a + i) (by omega)]
      by_cases h2 : 128 ≤ bt s (a + i)
      · rw [if_pos h2] at h
        rw [if_pos h2, if_pos h2]
        exact ih _ _ h
      · rw [if_neg h2, if_neg h2]
theorem glGo_fit (s : ByteArray) (a : Nat) : ∀ (f i : Nat) (n : Int), 0 ≤ n → n < 128 ^ i → (glGo s a f i n).2.2 = 0 → 0 ≤ (glGo s a f i n).1 ∧ (glGo s a f i n).1 < 128 ^ (i + f) ∧ (i : Int) + 1 ≤ (glGo s a f i n).2.1 ∧ (glGo s a f i n).2.1 ≤ i + f := by
  intro f
  induction f with
  | zero => intro i n _ _ h; simp [glGo] at h
  | succ f ih =>
    intro i n h0 hn h
    have hb := bt_le s (a + i)
    have hp : (0 : Int) < 128 ^ i := Int.pow_pos (by decide)
    have hm := Int.emod_nonneg (bt s (a + i)) (show (128 : Int) ≠ 0 by decide)
    have hm' := Int.emod_lt_of_pos (bt s (a + i)) (show (0 : Int) < 128 by decide)
    have hx0 : 0 ≤ bt s (a + i) % 128 * 128 ^ i := Int.mul_nonneg hm (Int.le_of_lt hp)
    have hx1 : bt s (a + i) % 128 * 128 ^ i ≤ 127 * 128 ^ i := Int.mul_le_mul_of_nonneg_right (by omega) (Int.le_of_lt hp)
    have hlt : n + bt s (a + i) % 128 * 128 ^ i < 128 ^ (i + 1) := by rw [Int.pow_succ]; omega
    rw [glGo] at h ⊢
    by_cases h1 : s.size ≤ a + i
    · rw [if_pos h1] at h; simp at h
    · rw [if_neg h1] at h ⊢
      by_cases h2 : 128 ≤ bt s (a + i)
      · rw [if_pos h2] at h ⊢
        obtain ⟨a1, a2, a3, a4⟩ := ih (i + 1) _ (by omega) hlt h
        refine ⟨a1, ?_, by omega, by omega⟩
        rwa [show i + (f + 1) = i + 1 + f by omega]
      · rw [if_neg h2] at h ⊢
        by_cases h3 : bt s (a + i) = 0 ∧ 0 < i
        · rw [if_pos h3] at h; simp at h
        · rw [if_neg h3]
          refine ⟨by simp only; omega, ?_, by simp only; omega, by simp only; omega⟩
          simp only
          have h5 : (128 : Int) ^ (i + (f + 1)) = 128 ^ (i + 1) * 128 ^ f := by rw [← Int.pow_add, show i + 1 + f = i + (f + 1) by omega]
          have h6 : (0 : Int) < 128 ^ f := Int.pow_pos (by decide)
          have h7 : (0 : Int) < 128 ^ (i + 1) := Int.pow_pos (by decide)
          have h8 := Int.mul_le_mul_of_nonneg_left (show (1 : Int) ≤ 128 ^ f by omega) (Int.le_of_lt h7)
          omega
theorem glR_eq {s : ByteArray} (h : 0 < s.size) : glR s 1 = glGo s 1 4 0 0 := by
  unfold glR
  rw [if_neg (by omega)]
  rfl
theorem glR_ok {s : ByteArray} (h : (glR s 1).2.2 = 0) : 0 ≤ (glR s 1).1 ∧ (glR s 1).1 ≤ 268435455 ∧ 1 ≤ (glR s 1).2.1 ∧ (glR s 1).2.1 ≤ 4 := by
  by_cases h0 : 0 < s.size
  · rw [glR_eq h0] at h ⊢
    obtain ⟨a1, a2, a3, a4⟩ := glGo_fit s 1 4 0 0 (by decide) (by decide) h
    have e : (128 : Int) ^ (0 + 4) = 268435456 := by decide
    rw [e] at a2
    exact ⟨a1, by omega, by omega, by omega⟩
  · unfold glR at h
    rw [if_pos (by omega)] at h
    simp at h

/-- what size says -/
def szE (s : ByteArray) : Int := if (glR s 1).2.2 ≠ 0 then (glR s 1).2.2 else if 600 < 1 + (glR s 1).2.1 + (glR s 1).1 then 2 else if (s.size : Int) < 1 + (glR s 1).2.1 + (glR s 1).1 then 8 else 0
def szN (s : ByteArray) : Int := if szE s = 0 then 1 + (glR s 1).2.1 + (glR s 1).1 else 0
theorem sz_ok {s : ByteArray} (h : szE s = 0) : 2 ≤ szN s ∧ szN s ≤ 600 ∧ szN s ≤ s.size ∧ szN s = 1 + (glR s 1).2.1 + (glR s 1).1 := by
  have hn : szN s = 1 + (glR s 1).2.1 + (glR s 1).1 := if_pos h
  unfold szE at h
  by_cases h1 : (glR s 1).2.2 = 0
  · have := glR_ok h1
    rw [if_neg (by simp [h1])] at h
    by_cases h2 : 600 < 1 + (glR s 1).2.1 + (glR s 1).1
    · rw [if_pos h2] at h; simp at h
    · rw [if_neg h2] at h
      by_cases h3 : (s.size : Int) < 1 + (glR s 1).2.1 + (glR s 1).1
      · rw [if_pos h3] at h; simp at h
      · omega
  · rw [if_pos h1] at h; exact absurd h h1
theorem sz_app {s : ByteArray} (t : ByteArray) (h0 : 0 < s.size) (h : szE s ≠ 8) : szE (s ++ t) = szE s ∧ szN (s ++ t) = szN s := by
  have hs : (s ++ t).size = s.size + t.size := ByteArray.size_append
  have h8 : (glR s 1).2.2 ≠ 8 := fun e => by
    unfold szE at h
    rw [if_pos (by simp [e])] at h
    exact h e
  have hg : glR (s ++ t) 1 = glR s 1 := by
    rw [glR_eq h0] at h8 ⊢
    rw [glR_eq (by omega)]
    exact glGo_app s t 1 4 0 0 h8
  have he : szE (s ++ t) = szE s := by
    unfold szE at h ⊢
    rw [hg]
    by_cases h1 : (glR s 1).2.2 ≠ 0
    · rw [if_pos h1, if_pos h1]
    · rw [if_neg h1] at h
      rw [if_neg h1, if_neg h1]
      by_cases h2 : 600 < 1 + (glR s 1).2.1 + (glR s 1).1
      · rw [if_pos h2, if_pos h2]
      · rw [if_neg h2] at h
        rw [if_neg h2, if_neg h2]
        by_cases h3 : (s.size : Int) < 1 + (glR s 1).2.1 + (glR s 1).1
        · rw [if_pos h3] at h; exact absurd rfl h
        · rw [if_neg h3, if_neg (by omega)]
  exact ⟨he, by unfold szN; rw [he, hg]⟩

/-- the first packet's bytes, and those behind them -/
def hd (s : ByteArray) : ByteArray := s.extract 0 (szN s).toNat
def tl (s : ByteArray) : ByteArray := s.extract (szN s).toNat s.size
theorem ext_app_left (s t : ByteArray) (n : Nat) (h : n ≤ s.size) : (s ++ t).extract 0 n = s.extract 0 n := by
  apply ByteArray.ext; apply Array.toList_inj.1
  have e : s.data.toList.length = s.size := by simp
  simp only [ByteArray.data_extract, Array.toList_extract, List.extract_eq_take_drop, ByteArray.data_append, Array.toList_append, List.drop_zero, Nat.sub_zero]
  exact List.take_append_of_le_length (by omega)
theorem ext_app_right (s t : ByteArray) (n : Nat) (h : n ≤ s.size) : (s ++ t).extract n (s ++ t).size = s.extract n s.size ++ t := by
  apply ByteArray.ext; apply Array.toList_inj.1
  have h' : n ≤ s.data.toList.length := by simpa using h
  have hsz : (s ++ t).size = s.size + t.size := ByteArray.size_append
  have e1 : s.data.toList.length = s.size := by simp
  have e2 : t.data.toList.length = t.size := by simp
  rw [hsz]
  simp only [ByteArray.data_extract, Array.toList_extract, List.extract_eq_take_drop, ByteArray.data_append, Array.toList_append]
  rw [List.drop_append_of_le_length h', List.take_of_length_le (by simp only [List.length_append, List.length_drop]; omega), List.take_of_length_le (by simp only [List.length_drop]; omega)]
theorem tl_size {s : ByteArray} (h : szE s = 0) : (tl s).size + 2 ≤ s.size ∧ 2 ≤ s.size := by
  have := sz_ok h
  unfold tl
  rw [ByteArray.size_extract]
  omega

/-- what comes out of a stream: packets, what is left, which error (with room for so many) -/
def fdF : Nat → ByteArray → List Pk × ByteArray × Int
  | 0, s => ([], s, 0)
  | f + 1, s =>
    if s.size = 0 then ([], s, 0) else if szE s = 8 then ([], s, 0) else if szE s ≠ 0 then ([], ⟨#[]⟩, szE s)
    else if decE (hd s) ≠ 0 then ([], ⟨#[]⟩, decE (hd s)) else (decP (hd s) :: (fdF f (tl s)).1, (fdF f (tl s)).2)
def fd (s : ByteArray) : List Pk × ByteArray × Int := fdF s.size s
theorem fdF_room : ∀ (f g : Nat) (s : ByteArray), s.size ≤ f → s.size ≤ g → fdF f s = fdF g s := by
  intro f
  induction f with
  | zero =>
    intro g s hf _
    cases g with
    | zero => rfl
    | succ g => rw [fdF, fdF, if_pos (by omega)]
  | succ f ih =>
    intro g s hf hg
    cases g with
    | zero => rw [fdF, fdF, if_pos (by omega)]
    | succ g =>
      rw [fdF, fdF]
      by_cases h0 : s.size = 0
      · rw [if_pos h0, if_pos h0]
      · rw [if_neg h0, if_neg h0]
        by_cases h1 : szE s = 8
        · rw [if_pos h1, if_pos h1]
        · rw [if_neg h1, if_neg h1]
          by_cases h2 : szE s ≠ 0
          · rw [if_pos h2, if_pos h2]
          · rw [if_neg h2, if_neg h2]
            have h3 := tl_size (s := s) (by omega)
            rw [ih g (tl s) (by omega) (by omega)]
section
variable {s : ByteArray}
theorem fd_nil (h : s.size = 0) : fd s = ([], s, 0) := by unfold fd; rw [h]; rfl
theorem fd_succ (h : s.size ≠ 0) : ∃ f, fd s = fdF (f + 1) s ∧ s.size = f + 1 := ⟨s.size - 1, by unfold fd; rw [show s.size - 1 + 1 = s.size by omega], by omega⟩
theorem fd_short (h : s.size ≠ 0) (h1 : szE s = 8) : fd s = ([], s, 0) := by
  obtain ⟨f, e, _⟩ := fd_succ h
  rw [e, fdF, if_neg h, if_pos h1]
theorem fd_bad (h : s.size ≠ 0) (h1 : szE s ≠ 8) (h2 : szE s ≠ 0) : fd s = ([], ⟨#[]⟩, szE s) := by
  obtain ⟨f, e, _⟩ := fd_succ h
  rw [e, fdF, if_neg h, if_neg h1, if_pos h2]
theorem fd_wrong (h : s.size ≠ 0) (h2 : szE s = 0) (h3 : decE (hd s) ≠ 0) : fd s = ([], ⟨#[]⟩, decE (hd s)) := by
  obtain ⟨f, e, _⟩ := fd_succ h
  rw [e, fdF, if_neg h, if_neg (by omega), if_neg (by simp [h2]), if_pos h3]
theorem fd_step (h : s.size ≠ 0) (h2 : szE s = 0) (h3 : decE (hd s) = 0) : fd s = (decP (hd s) :: (fd (tl s)).1, (fd (tl s)).2) := by
  obtain ⟨f, e, hf⟩ := fd_succ h
  have h4 := tl_size h2
  rw [e, fdF, if_neg h, if_neg (by omega), if_neg (by simp [h2]), if_neg (by simp [h3])]
  unfold fd
  rw [fdF_room f (tl s).size (tl s) (by omega) (Nat.le_refl _)]
end
theorem hd_app {s : ByteArray} (t : ByteArray) (h0 : s.size ≠ 0) (h : szE s = 0) : hd (s ++ t) = hd s ∧ tl (s ++ t) = tl s ++ t ∧ szE (s ++ t) = 0 ∧ (s ++ t).size ≠ 0 := by
  obtain ⟨a1, a2⟩ := sz_app t (by omega) (show szE s ≠ 8 by omega)
  have h1 := sz_ok h
  refine ⟨?_, ?_, by omega, by rw [ByteArray.size_append]; omega⟩
  · unfold hd; rw [a2]; exact ext_app_left s t _ (by omega)
  · unfold tl; rw [a2]; exact ext_app_right s t _ (by omega)
/-- a stream that came well so far: what comes behind it is as if what was left stood ahead of it -/
theorem fd_more : ∀ (n : Nat) (a b : ByteArray), a.size ≤ n → (fd a).2.2 = 0 → fd (a ++ b) = ((fd a).1 ++ (fd ((fd a).2.1 ++ b)).1, (fd ((fd a).2.1 ++ b)).2) := by
  intro n
  induction n with
  | zero =>
    intro a b hn _
    rw [fd_nil (show a.size = 0 by omega)]
    rfl
  | succ n ih =>
    intro a b hn h
    by_cases h0 : a.size = 0
    · rw [fd_nil h0]; rfl
    · by_cases h1 : szE a = 8
      · rw [fd_short h0 h1]; rfl
      · by_cases h2 : szE a = 0
        · by_cases h3 : decE (hd a) = 0
          · obtain ⟨e1, e2, e3, e4⟩ := hd_app b h0 h2
            have h4 := tl_size h2
            rw [fd_step h0 h2 h3] at h
            rw [fd_step e4 e3 (by rw [e1]; exact h3), fd_step h0 h2 h3, e1, e2, ih (tl a) b (by omega) h]
            simp only [List.cons_append]
          · rw [fd_wrong h0 h2 h3] at h; exact absurd h h3
        · rw [fd_bad h0 h1 h2] at h; exact absurd h h2
/-- a stream that has an error: what comes behind it changes nothing -/
theorem fd_err : ∀ (n : Nat) (a b : ByteArray), a.size ≤ n → (fd a).2.2 ≠ 0 → fd (a ++ b) = fd a := by
  intro n
  induction n with
  | zero =>
    intro a b hn h
    rw [fd_nil (show a.size = 0 by omega)] at h
    exact absurd rfl h
  | succ n ih =>
    intro a b hn h
    by_cases h0 : a.size = 0
    · rw [fd_nil h0] at h; exact absurd rfl h
    · by_cases h1 : szE a = 8
      · rw [fd_short h0 h1] at h; exact absurd rfl h
      · by_cases h2 : szE a = 0
        · obtain ⟨e1, e2, e3, e4⟩ := hd_app b h0 h2
          by_cases h3 : decE (hd a) = 0
          · have h4 := tl_size h2
            rw [fd_step h0 h2 h3] at h
            rw [fd_step e4 e3 (by rw [e1]; exact h3), fd_step h0 h2 h3, e1, e2, ih (tl a) b (by omega) h]
          · rw [fd_wrong e4 e3 (by rw [e1]; exact h3), fd_wrong h0 h2 h3, e1]
        · obtain ⟨a1, _⟩ := sz_app b (by omega) h1
          have e4 : (a ++ b).size ≠ 0 := by rw [ByteArray.size_append]; omega
          rw [fd_bad e4 (by omega) (by omega), fd_bad h0 h1 h2, a1]
/-- what comes is right, and there are no more than bytes -/
theorem fd_right : ∀ (n : Nat) (s : ByteArray), s.size ≤ n → (∀ p ∈ (fd s).1, p.asks.length ≤ 6 ∧ p.codes.length ≤ 6) ∧ (fd s).1.length + (fd s).2.1.size ≤ s.size := by
  intro n
  induction n with
  | zero => intro s hn; rw [fd_nil (show s.size = 0 by omega)]; simp
  | succ n ih =>
    intro s hn
    by_cases h0 : s.size = 0
    · rw [fd_nil h0]; simp
    · by_cases h1 : szE s = 8
      · rw [fd_short h0 h1]; simp
      · by_cases h2 : szE s = 0
        · by_cases h3 : decE (hd s) = 0
          · have h4 := tl_size h2
            obtain ⟨a1, a2⟩ := ih (tl s) (by omega)
            rw [fd_step h0 h2 h3]
            refine ⟨fun p hp => ?_, by simp only [List.length_cons]; omega⟩
            cases hp with
            | head =>
              have hc : chkP (rdP (hd s)) = 0 := by
                unfold decE at h3
                split at h3
                · simp at h3
                · exact h3
              have := chkP_ok hc
              rw [show decP (hd s) = rdP (hd s) from if_pos h3]
              omega
            | tail _ hp => exact a1 p hp
          · rw [fd_wrong h0 h2 h3]; exact ⟨by simp, Nat.zero_le _⟩
        · rw [fd_bad h0 h1 h2]; exact ⟨by simp, Nat.zero_le _⟩
end Go.Proofs.YtgmjdelgocbcaabDoor
/-
  Rows of packets: how they lie, how they grow.
-/
namespace Go.Proofs.YtgmjdelgocbcaabDoor
open Go.RowKit Go.PlainAid

/-- a packet, and where its two lists lie -/
structure Lp where
  p : Pk
  aa : Option Addr
  ca : Nat
  ac : Option Addr
  cc : Nat
/-- its cells -/
def lpC (q : Lp) : List Value := [.int .i64 q.p.kind, .bool q.p.dup, .bool q.p.retain, .bool q.p.clean, .bool q.p.session, .int .i64 q.p.qos, .int .i64 q.p.id, .int .i64 q.p.keep, .int .i64 q.p.code, .string q.p.client, .string q.p.topic, .string q.p.payload, .slice q.aa q.p.asks.length q.ca, .slice q.ac q.p.codes.length q.cc]
def lpCells (l : List Lp) : List Value := l.flatMap lpC
theorem lpC_len (q : Lp) : (lpC q).length = 14 := rfl
theorem lpCells_append (a b : List Lp) : lpCells (a ++ b) = lpCells a ++ lpCells b := by simp [lpCells]
theorem lpCells_cons (q : Lp) (l : List Lp) : lpCells (q :: l) = lpC q ++ lpCells l := by simp [lpCells]
theorem lpCells_one (q : Lp) : lpCells [q] = lpC q := by simp [lpCells]
theorem lpCells_len (l : List Lp) : (lpCells l).length = l.length * 14 := by
  induction l with
  | nil => rfl
  | cons a l ih => rw [lpCells_cons, List.length_append, ih, lpC_len, List.length_cons]; omega
theorem lpCells_get (l : List Lp) (i j : Nat) (h : i < l.length) (hj : j < 14) : (lpCells l)[i * 14 + j]? = (lpC l[i])[j]? := by
  induction l generalizing i with
  | nil => simp at h
  | cons a l ih =>
    rw [lpCells_cons]
    cases i with
    | zero => rw [List.getElem?_append_left (by rw [lpC_len]; omega)]; simp
    | succ i =>
      rw [List.getElem?_append_right (by rw [lpC_len]; omega), lpC_len, show (i + 1) * 14 + j - 14 = i * 14 + j by omega]
      exact ih i (by simpa using h)
theorem lpC_cell (q : Lp) : ∀ u ∈ lpC q, u.oneCell' = true := by
  intro u hu
  simp only [lpC, List.mem_cons, List.not_mem_nil, or_false] at hu
  rcases hu with rfl | rfl | rfl | rfl | rfl | rfl | rfl | rfl | rfl | rfl | rfl | rfl | rfl | rfl <;> rfl
theorem lpCells_cell (l : List Lp) : ∀ u ∈ lpCells l, u.oneCell' = true := by
  intro u hu
  simp only [lpCells, List.mem_flatMap] at hu
  obtain ⟨q, _, hu⟩ := hu
  exact lpC_cell q u hu
theorem padd_plain (b o i : Nat) : (⟨b, o, none⟩ : Addr).add i = ⟨b, o + i, none⟩ := by unfold Addr.add; split <;> simp_all

/-- its lists lie in blocks from N on, and none of them is that one -/
def Far (N : Nat) (W : World) (ob : Option Nat) (q : Lp) : Prop :=
  PkIn W q.p q.aa q.ac ∧ (q.p.asks = [] ∨ ∃ b o, q.aa = some ⟨b, o, none⟩ ∧ N ≤ b ∧ ob ≠ some b) ∧ (q.p.codes = [] ∨ ∃ b o, q.ac = some ⟨b, o, none⟩ ∧ N ≤ b ∧ ob ≠ some b)
theorem Far.keep {N : Nat} {W W' : World} {ob ob' : Option Nat} {q : Lp} (h : Far N W ob q) (hs : W.heap.size ≤ W'.heap.size) (hk : ∀ k, k < W.heap.size → N ≤ k → ob ≠ some k → W'.heap[k]? = W.heap[k]? ∧ ob' ≠ some k) : Far N W' ob' q := by
  obtain ⟨⟨h1, h2⟩, h3, h4⟩ := h
  refine ⟨⟨?_, ?_⟩, ?_, ?_⟩
  · rcases h1 with e | ⟨b, o, ha, hb, hc⟩
    · exact .inl e
    · rcases h3 with e | ⟨b', o', ha', hn, hne⟩
      · exact .inl e
      · rw [ha] at ha'
        simp only [Option.some.injEq, Addr.mk.injEq, and_true] at ha'
        obtain ⟨rfl, rfl⟩ := ha'
        have := (hk b hb hn hne).1
        exact .inr ⟨b, o, ha, by omega, fun i hi => ⟨(World.cell?_of_block (a := ⟨b, _, none⟩) this).trans (hc i hi).1, (World.cell?_of_block (a := ⟨b, _, none⟩) this).trans (hc i hi).2⟩⟩
  · rcases h2 with e | ⟨b, o, ha, hb, hc⟩
    · exact .inl e
    · rcases h4 with e | ⟨b', o', ha', hn, hne⟩
      · exact .inl e
      · rw [ha] at ha'
        simp only [Option.some.injEq, Addr.mk.injEq, and_true] at ha'
        obtain ⟨rfl, rfl⟩ := ha'
        have := (hk b hb hn hne).1
        exact .inr ⟨b, o, ha, by omega, fun i hi => (World.cell?_of_block (a := ⟨b, _, none⟩) this).trans (hc i hi)⟩
  · rcases h1 with e | ⟨b, o, ha, hb, _⟩
    · exact .inl e
    · rcases h3 with e | ⟨b', o', ha', hn, hne⟩
      · exact .inl e
      · rw [ha] at ha'
        simp only [Option.some.injEq, Addr.mk.injEq, and_true] at ha'
        obtain ⟨rfl, rfl⟩ := ha'
        exact .inr ⟨b, o, ha, hn, (hk b hb hn hne).2⟩
  · rcases h2 with e | ⟨b, o, ha, hb, _⟩
    · exact .inl e
    · rcases h4 with e | ⟨b', o', ha', hn, hne⟩
      · exact .inl e
      · rw [ha] at ha'
        simp only [Option.some.injEq, Addr.mk.injEq, and_true] at ha'
        obtain ⟨rfl, rfl⟩ := ha'
        exact .inr ⟨b, o, ha, hn, (hk b hb hn hne).2⟩
theorem Far.step {N : Nat} {W W' : World} {ob : Option Nat} {q : Lp} (h : Far N W ob q) (hb : Below W.heap.size W W') : Far N W' ob q :=
  h.keep hb.size (fun k hk _ hne => ⟨hb.block k hk, hne⟩)
theorem Far.of_new {N : Nat} {W : World} {ob : Option Nat} {q : Lp} (h : PkInB N W q.p q.aa q.ac) (hob : ∀ k, ob = some k → k < N) : Far N W ob q := by
  refine ⟨h.1, h.2.1.imp id (fun ⟨b, o, e, hb⟩ => ⟨b, o, e, hb, fun e' => ?_⟩), h.2.2.imp id (fun ⟨b, o, e, hb⟩ => ⟨b, o, e, hb, fun e' => ?_⟩)⟩
  · have := hob b e'; omega
  · have := hob b e'; omega
theorem Far.mono {N M : Nat} {W : World} {ob : Option Nat} {q : Lp} (h : Far N W ob q) (hM : M ≤ N) : Far M W ob q :=
  ⟨h.1, h.2.1.imp id (fun ⟨b, o, e, hb, hn⟩ => ⟨b, o, e, by omega, hn⟩), h.2.2.imp id (fun ⟨b, o, e, hb, hn⟩ => ⟨b, o, e, by omega, hn⟩)⟩

theorem pown_kept {w w' : World} {N : Nat} {e : TypeId} {k : Nat} {v : Value} {n : Nat} {xs : List Value} (h : w.ownsRow N e k v n xs) (hk : ∀ g, v.ownBlock = some g → w'.heap[g]? = w.heap[g]?) : w'.ownsRow N e k v n xs := by
  refine ⟨h.1, ?_⟩
  rcases h.2 with hn | ⟨g, cap, cur, rfl, hb, hg, rest⟩
  · exact .inl hn
  · exact .inr ⟨g, cap, cur, rfl, hb, by rw [hk g rfl]; exact hg, rest⟩
theorem pown_at {w : World} {N : Nat} {e : TypeId} {k : Nat} {v : Value} {n : Nat} {xs : List Value} (h : w.ownsRow N e k v n xs) {g : Nat} (hg : v.ownBlock = some g) : N ≤ g ∧ ∃ cur, w.heap[g]? = some (.cells cur e (0, 0)) := by
  rcases h.2 with ⟨rfl, _⟩ | ⟨g', cap, cur, rfl, hb, hg', _⟩
  · simp [Value.ownBlock] at hg
  · simp only [Value.ownBlock, Option.some.injEq] at hg
    subst hg
    exact ⟨hb, cur, hg'⟩
theorem pown_lt {w : World} {N : Nat} {e : TypeId} {k : Nat} {v : Value} {n : Nat} {xs : List Value} (h : w.ownsRow N e k v n xs) {g : Nat} (hg : v.ownBlock = some g) : g < w.heap.size := by
  obtain ⟨_, cur, hc⟩ := pown_at h hg
  exact (Array.getElem?_eq_some_iff.1 hc).1
theorem pown_ne {w : World} {N : Nat} {e : TypeId} {k : Nat} {v : Value} {n : Nat} {xs : List Value} (h : w.ownsRow N e k v n xs) {b : Nat} {c : Array Value} {t : TypeId} {fz : Nat × Nat} (hb : w.heap[b]? = some (.cells c t fz)) (ht : t ≠ e) : v.ownBlock ≠ some b := fun he => by
  obtain ⟨_, cur, hc⟩ := pown_at h he
  rw [hb] at hc
  simp only [Option.some.injEq, Obj.cells.injEq] at hc
  exact ht hc.2.1

/-- a row of packets that grows: all of it lies from N on -/
structure Fr (N : Nat) (w : World) (L : List Lp) (v : Value) (W : World) : Prop where
  bel : Below w.heap.size w W
  row : W.ownsRow w.heap.size 25 14 v L.length (lpCells L)
  far : ∀ q ∈ L, Far N W v.ownBlock q
section
variable {N : Nat} {w W W' : World} {L : List Lp} {v v' : Value}
theorem Fr.step (h : Fr N w L v W) (hb : Below W.heap.size W W') : Fr N w L v W' :=
  ⟨h.bel.trans (hb.mono h.bel.size), pown_kept h.row (fun g hg => hb.block g (pown_lt h.row hg)), fun q hq => (h.far q hq).step hb⟩
theorem Fr.drew (h : Fr N w L v W) : Fr N w L v W.drew := h.step (Below.drew (Below.refl _ _))
theorem Fr.alloc (h : Fr N w L v W) (o : Obj) : Fr N w L v (W.alloc o) := h.step ((Below.refl _ W).alloc (Nat.le_refl _) o)
theorem Fr.grown (h : Fr N w L v W) {Q : List Lp} {g cap : Nat} (hQ : ∀ q ∈ Q, Far N W v.ownBlock q) (hg : W.grownBy W' v.ownBlock) (hat : v.ownBlock = some g ∨ g = W.heap.size) (hr : W'.ownsRow w.heap.size 25 14 (.slice (some ⟨g, 0, none⟩) (L.length + Q.length) cap) (L.length + Q.length) (lpCells L ++ lpCells Q)) : Fr N w (L ++ Q) (.slice (some ⟨g, 0, none⟩) (L.length + Q.length) cap) W' := by
  refine ⟨Below.grown h.bel hg h.bel.size (fun g' hg' => (pown_at h.row hg').1), ?_, fun q hq => ?_⟩
  · rw [lpCells_append, List.length_append]; exact hr
  · have hq' : Far N W v.ownBlock q := by
      rcases List.mem_append.1 hq with hq | hq
      · exact h.far q hq
      · exact hQ q hq
    refine hq'.keep hg.size (fun k hk hN hne => ⟨hg.block k hk (fun e => hne e.symm), fun e => ?_⟩)
    simp only [Value.ownBlock, Option.some.injEq] at e
    subst e
    rcases hat with e | e
    · exact hne e
    · omega
end
/-- packets lie there, all of their lists from N on -/
def Lies (N : Nat) (W : World) (ao : Option Addr) (Q : List Lp) : Prop :=
  (Q = [] ∨ ∃ g o, ao = some ⟨g, o, none⟩ ∧ g < W.heap.size ∧ ∀ j u, (lpCells Q)[j]? = some u → W.cell? ⟨g, o + j, none⟩ = some u) ∧ ∀ q ∈ Q, PkInB N W q.p q.aa q.ac
theorem Lies.step {N : Nat} {W W' : World} {ao : Option Addr} {Q : List Lp} (h : Lies N W ao Q) (hb : Below W.heap.size W W') : Lies N W' ao Q :=
  ⟨h.1.imp id (fun ⟨g, o, e, hg, hc⟩ => ⟨g, o, e, Nat.lt_of_lt_of_le hg hb.size, fun j u hu => (hb.cell (p := ⟨g, o + j, none⟩) hg).trans (hc j u hu)⟩), fun q hq => ⟨(h.2 q hq).1.below hb, (h.2 q hq).2⟩⟩
theorem Lies.mono {N M : Nat} {W : World} {ao : Option Addr} {Q : List Lp} (h : Lies N W ao Q) (hM : M ≤ N) : Lies M W ao Q :=
  ⟨h.1, fun q hq => ⟨(h.2 q hq).1, (h.2 q hq).2.1.imp id (fun ⟨b, o, e, hb⟩ => ⟨b, o, e, by omega⟩), (h.2 q hq).2.2.imp id (fun ⟨b, o, e, hb⟩ => ⟨b, o, e, by omega⟩)⟩⟩
theorem Fr.lies {N : Nat} {w W : World} {L : List Lp} {ao : Option Addr} {co : Nat} (h : Fr N w L (.slice ao L.length co) W) : Lies N W ao L := by
  refine ⟨?_, fun q hq => ⟨(h.far q hq).1, (h.far q hq).2.1.imp id (fun ⟨b, o, e, hb, _⟩ => ⟨b, o, e, hb⟩), (h.far q hq).2.2.imp id (fun ⟨b, o, e, hb, _⟩ => ⟨b, o, e, hb⟩)⟩⟩
  rcases h.row.2 with ⟨_, h0⟩ | ⟨g, cap, cur, hv, hb, hg, _, _, _, htake⟩
  · exact .inl (List.length_eq_zero_iff.1 h0)
  · injection hv with ha _ _
    subst ha
    refine .inr ⟨g, 0, rfl, (Array.getElem?_eq_some_iff.1 hg).1, fun j u hu => ?_⟩
    rw [← htake, List.getElem?_take] at hu
    split at hu
    · rw [Nat.zero_add, Lib.cell_of_heap hg]
      simpa using hu
    · cases hu
/-- the cells of one of them -/
theorem Lies.at {N : Nat} {W : World} {ao : Option Addr} {Q : List Lp} (h : Lies N W ao Q) {i : Nat} (hi : i < Q.length) : ∃ g o, ao = some ⟨g, o, none⟩ ∧ g < W.heap.size ∧ ∀ j u, (lpC Q[i])[j]? = some u → W.cell? ⟨g, o + i * 14 + j, none⟩ = some u := by
  rcases h.1 with rfl | ⟨g, o, e, hg, hc⟩
  · simp at hi
  · refine ⟨g, o, e, hg, fun j u hu => ?_⟩
    have hj : j < 14 := by have := (List.getElem?_eq_some_iff.1 hu).1; rwa [lpC_len] at this
    rw [Nat.add_assoc]
    exact hc _ u (by rw [lpCells_get Q i j hi hj]; exact hu)
theorem pinfo : ∃ i0, Tryd.prog.info? 25 = some i0 ∧ i0.zero = some (.agg #[.int .i64 0, .bool false, .bool false, .bool false, .bool false, .int .i64 0, .int .i64 0, .int .i64 0, .int .i64 0, .string ⟨#[]⟩, .string ⟨#[]⟩, .string ⟨#[]⟩, .slice none 0 0, .slice none 0 0]) ∧ i0.size = 14 ∧ i0.bytes = 144 :=
  info_parts (show (Tryd.prog.info? 25).map (fun i => (i.zero, i.size, i.bytes)) = some (some (.agg #[.int .i64 0, .bool false, .bool false, .bool false, .bool false, .int .i64 0, .int .i64 0, .int .i64 0, .int .i64 0, .string ⟨#[]⟩, .string ⟨#[]⟩, .string ⟨#[]⟩, .slice none 0 0, .slice none 0 0]), 14, 144) by kernel_rfl)
section
variable {ops : Array Oper} {rest : List Oper} {o : Oper} {a : Act} {Q : Exit → Act → World → Prop} {N : Nat} {w W : World} {L : List Lp} {v : Value}
/-- a packet more, in a plain region -/
theorem wpP (hgd : o.guard = none) (x y : Operand) (ho : o.op = .call { callee := .builtin .append, args := #[x, y], argTypes := #[36, 36] })
    (hx : a.eval x = v) (g0 o0 c0 : Nat) (D : List Lp) (hy : a.eval y = .slice (some ⟨g0, o0, none⟩) D.length c0) (h0 : 0 < D.length) (hI : Fr N w L v W) (hD : ∀ j u, (lpCells D)[j]? = some u → W.cell? ⟨g0, o0 + j, none⟩ = some u) (hF : ∀ q ∈ D, Far N W v.ownBlock q) (hL : L.length + D.length ≤ 900000000001)
    (h : ∀ g cap W', Fr N w (L ++ D) (.slice (some ⟨g, 0, none⟩) (L.length + D.length) cap) W' → W.grownBy W' v.ownBlock → wpList Tryd.prog ops Q rest (a.put o.dst (.slice (some ⟨g, 0, none⟩) (L.length + D.length) cap)) W') :
    wpList Tryd.prog ops Q (o :: rest) a W := by
  obtain ⟨i0, hi, hz0, hz1, hz2⟩ := pinfo
  refine wpList_append_lies W hgd x y 36 ho w.heap.size 25 i0 _ 14 144 Tryd.underlying36 hi hz0 hz1 hz2 rfl (by decide) v L.length _ hx hI.row ⟨g0, o0, none⟩ D.length c0 (lpCells D) hy (lpCells_len D) (fun j u hu => by rw [padd_plain]; exact hD j u hu) (lpCells_cell D) h0 (by unfold maxLen; omega) (by omega) hI.bel.size _ rfl ?_
  intro g cap W' hown hgrow hat hlt
  exact h g cap W' (hI.grown hF hgrow hat hown) hgrow
/-- one packet more -/
theorem wpP1 (hgd : o.guard = none) (x y : Operand) (ho : o.op = .call { callee := .builtin .append, args := #[x, y], argTypes := #[36, 36] })
    (hx : a.eval x = v) (g0 c0 : Nat) (q : Lp) (hy : a.eval y = .slice (some ⟨g0, 0, none⟩) 1 c0) (hI : Fr N w L v W) (hD : ∀ j u, (lpC q)[j]? = some u → W.cell? ⟨g0, j, none⟩ = some u) (hF : Far N W v.ownBlock q) (hL : L.length ≤ 900000000000)
    (h : ∀ g cap W', Fr N w (L ++ [q]) (.slice (some ⟨g, 0, none⟩) (L.length + 1) cap) W' → W.grownBy W' v.ownBlock → wpList Tryd.prog ops Q rest (a.put o.dst (.slice (some ⟨g, 0, none⟩) (L.length + 1) cap)) W') :
    wpList Tryd.prog ops Q (o :: rest) a W :=
  wpP hgd x y ho hx g0 0 c0 [q] hy (by simp) hI (fun j u hu => by rw [lpCells_one] at hu; rw [Nat.zero_add]; exact hD j u hu) (fun q' hq' => by rw [List.mem_singleton] at hq'; subst hq'; exact hF) (by simp only [List.length_singleton]; omega) h
end
end Go.Proofs.YtgmjdelgocbcaabDoor
