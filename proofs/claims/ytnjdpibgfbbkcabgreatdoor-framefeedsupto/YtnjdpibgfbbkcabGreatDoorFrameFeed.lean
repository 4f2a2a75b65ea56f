/-
  Packets out of a stream, as plain data: what comes, what is left, which error; and in pieces (no program in it).
-/
import Derived.Test.YtnjdpibgfbbkcabGreatDoorPacketDec
import Derived.Test.YtnjdpibgfbbkcabGreatDoorWireBackMath
import Derived.Deep.AppendLies
import Derived.Test.YtnjdpibgfbbkcabGreatDoorPacketBegun
import Derived.Deep.RegionHeld3
namespace Go.Proofs.YtnjdpibgfbbkcabGreatDoor
open Go.RowKit Go.PlainAid

theorem bt_app (s t : ByteArray) (k : Nat) (hk : k < s.size) : bt (s ++ t) k = bt s k := by
  rw [bt_getD, bt_getD]
  have e : s.data.toList.length = s.size := by simp
  simp only [ByteArray.data_append, Array.toList_append, List.getD_eq_getElem?_getD]
  rw [List.getElem?_append_left (by omega)]
theorem glGo_app (s t : ByteArray) (a : Nat) : ∀ (f i : Nat) (n : Int), (glGo s a f i n).2.2 ≠ 8 → glGo (s ++ t) a f i n = glGo s a f i n := by
  intro f
  induction f with
  | zero => intro i n _; rfl
  | succ f ih =>
    intro i n h
    rw [glGo] at h ⊢
    rw [glGo]
    by_cases h1 : s.size ≤ a + i
    · rw [if_pos h1] at h; exact absurd rfl h
    · have h1' : ¬ (s ++ t).size ≤ a + i := by rw [ByteArray.size_append]; omega
      rw [if_neg h1] at h
      rw [if_neg h1, if_neg h1', bt_app s t (a + i) (by omega)]
      by_cases h2 : 128 ≤ bt s (a + i)
      · rw [if_pos h2] at h
        rw [if_pos h2, if_pos h2]
        exact ih _ _ h
      · rw [if_neg h2, if_neg h2]
theorem glGo_fit (s : ByteArray) (a : Nat) : ∀ (f i : Nat) (n : Int), 0 ≤ n → n < 128 ^ i → (glGo s a f i n).2.2 = 0 → 0 ≤ (glGo s a f i n).1 ∧ (glGo s a f i n).1 < 128 ^ (i + f) ∧ (i : Int) + 1 ≤ (glGo s a f i n).2.1 ∧ (glGo s a f i n).2.1 ≤ i + f := by
  intro f
  induction f with
  | zero => intro i n _ _ h; simp [glGo] at h
  | succ f ih =>
    intro i n h0 hn h
    have hb := bt_le s (a + i)
    have hp : (0 : Int) < 128 ^ i := Int.pow_pos (by decide)
    have hm := Int.emod_nonneg (bt s (a + i)) (show (128 : Int) ≠ 0 by decide)
    have hm' := Int.emod_lt_of_pos (bt s (a + i)) (show (0 : Int) < 128 by decide)
    have hx0 : 0 ≤ bt s (a + i) % 128 * 128 ^ i := Int.mul_nonneg hm (Int.le_of_lt hp)
    have hx1 : bt s (a + i) % 128 * 128 ^ i ≤ 127 * 128 ^ i := Int.mul_le_mul_of_nonneg_right (by omega) (Int.le_of_lt hp)
    have hlt : n + bt s (a + i) % 128 * 128 ^ i < 128 ^ (i + 1) := by rw [Int.pow_succ]; omega
    rw [glGo] at h ⊢
    by_cases h1 : s.size ≤ a + i
    · rw [if_pos h1] at h; simp at h
    · rw [if_neg h1] at h ⊢
      by_cases h2 : 128 ≤ bt s (a + i)
      · rw [if_pos h2] at h ⊢
        obtain ⟨a1, a2, a3, a4⟩ := ih (i + 1) _ (by omega) hlt h
        refine ⟨a1, ?_, by omega, by omega⟩
        rwa [show i + (f + 1) = i + 1 + f by omega]
      · rw [if_neg h2] at h ⊢
        by_cases h3 : bt s (a + i) = 0 ∧ 0 < i
        · rw [if_pos h3] at h; simp at h
        · rw [if_neg h3]
          refine ⟨by simp only; omega, ?_, by simp only; omega, by simp only; omega⟩
          simp only
          have h5 : (128 : Int) ^ (i + (f + 1)) = 128 ^ (i + 1) * 128 ^ f := by rw [← Int.pow_add, show i + 1 + f = i + (f + 1) by omega]
          have h6 : (0 : Int) < 128 ^ f := Int.pow_pos (by decide)
          have h7 : (0 : Int) < 128 ^ (i + 1) := Int.pow_pos (by decide)
          have h8 := Int.mul_le_mul_of_nonneg_left (show (1 : Int) ≤ 128 ^ f by omega) (Int.le_of_lt h7)
          omega
theorem glR_eq {s : ByteArray} (h : 0 < s.size) : glR s 1 = glGo s 1 4 0 0 := by
  unfold glR
  rw [if_neg (by omega)]
  rfl
theorem glR_ok {s : ByteArray} (h : (glR s 1).2.2 = 0) : 0 ≤ (glR s 1).1 ∧ (glR s 1).1 ≤ 268435455 ∧ 1 ≤ (glR s 1).2.1 ∧ (glR s 1).2.1 ≤ 4 := by
  by_cases h0 : 0 < s.size
  · rw [glR_eq h0] at h ⊢
    obtain ⟨a1, a2, a3, a4⟩ := glGo_fit s 1 4 0 0 (by decide) (by decide) h
    have e : (128 : Int) ^ (0 + 4) = 268435456 := by decide
    rw [e] at a2
    exact ⟨a1, by omega, by omega, by omega⟩
  · unfold glR at h
    rw [if_pos (by omega)] at h
    simp at h

/-- what size says -/
def szE (s : ByteArray) : Int := if (glR s 1).2.2 ≠ 0 then (glR s 1).2.2 else if 600 < 1 + (glR s 1).2.1 + (glR s 1).1 then 2 else if (s.size : Int) < 1 + (glR s 1).2.1 + (glR s 1).1 then 8 else 0
def szN (s : ByteArray) : Int := if szE s = 0 then 1 + (glR s 1).2.1 + (glR s 1).1 else 0
theorem sz_ok {s : ByteArray} (h : szE s = 0) : 2 ≤ szN s ∧ szN s ≤ 600 ∧ szN s ≤ s.size ∧ szN s = 1 + (glR s 1).2.1 + (glR s 1).1 := by
  have hn : szN s = 1 + (glR s 1).2.1 + (glR s 1).1 := if_pos h
  unfold szE at h
  by_cases h1 : (glR s 1).2.2 = 0
  · have := glR_ok h1
    rw [if_neg (by simp [h1])] at h
    by_cases h2 : 600 < 1 + (glR s 1).2.1 + (glR s 1).1
    · rw [if_pos h2] at h; simp at h
    · rw [if_neg h2] at h
      by_cases h3 : (s.size : Int) < 1 + (glR s 1).2.1 + (glR s 1).1
      · rw [if_pos h3] at h; simp at h
      · omega
  · rw [if_pos h1] at h; exact absurd h h1
theorem sz_app {s : ByteArray} (t : ByteArray) (h0 : 0 < s.size) (h : szE s ≠ 8) : szE (s ++ t) = szE s ∧ szN (s ++ t) = szN s := by
  have hs : (s ++ t).size = s.size + t.size := ByteArray.size_append
  have h8 : (glR s 1).2.2 ≠ 8 := fun e => by
    unfold szE at h
    rw [if_pos (by simp [e])] at h
    exact h e
  have hg : glR (s ++ t) 1 = glR s 1 := by
    rw [glR_eq h0] at h8 ⊢
    rw [glR_eq (by omega)]
    exact glGo_app s t 1 4 0 0 h8
  have he : szE (s ++ t) = szE s := by
    unfold szE at h ⊢
    rw [hg]
    by_cases h1 : (glR s 1).2.2 ≠ 0
    · rw [if_pos h1, if_pos h1]
    · rw [if_neg h1] at h
      rw [if_neg h1, if_neg h1]
      by_cases h2 : 600 < 1 + (glR s 1).2.1 + (glR s 1).1
      · rw [if_pos h2, if_pos h2]
      · rw [if_neg h2] at h
        rw [if_neg h2, if_neg h2]
        by_cases h3 : (s.size : Int) < 1 + (glR s 1).2.1 + (glR s 1).1
        · rw [if_pos h3] at h; exact absurd rfl h
        · rw [if_neg h3, if_neg (by omega)]
  exact ⟨he, by unfold szN; rw [he, hg]⟩

/-- the first packet's bytes, and those behind them -/
def hd (s : ByteArray) : ByteArray := s.extract 0 (szN s).toNat
def tl (s : ByteArray) : ByteArray := s.extract (szN s).toNat s.size
theorem ext_app_left (s t : ByteArray) (n : Nat) (h : n ≤ s.size) : (s ++ t).extract 0 n = s.extract 0 n := by
  apply ByteArray.ext; apply Array.toList_inj.1
  have e : s.data.toList.length = s.size := by simp
  simp only [ByteArray.data_extract, Array.toList_extract, List.extract_eq_take_drop, ByteArray.data_append, Array.toList_append, List.drop_zero, Nat.sub_zero]
  exact List.take_append_of_le_length (by omega)
theorem ext_app_right (s t : ByteArray) (n : Nat) (h : n ≤ s.size) : (s ++ t).extract n (s ++ t).size = s.extract n s.size ++ t := by
  apply ByteArray.ext; apply Array.toList_inj.1
  have h' : n ≤ s.data.toList.length := by simpa using h
  have hsz : (s ++ t).size = s.size + t.size := ByteArray.size_append
  have e1 : s.data.toList.length = s.size := by simp
  have e2 : t.data.toList.length = t.size := by simp
  rw [hsz]
  simp only [ByteArray.data_extract, Array.toList_extract, List.extract_eq_take_drop, ByteArray.data_append, Array.toList_append]
  rw [List.drop_append_of_le_length h', List.take_of_length_le (by simp only [List.length_append, List.length_drop]; omega), List.take_of_length_le (by simp only [List.length_drop]; omega)]
theorem tl_size {s : ByteArray} (h : szE s = 0) : (tl s).size + 2 ≤ s.size ∧ 2 ≤ s.size := by
  have := sz_ok h
  unfold tl
  rw [ByteArray.size_extract]
  omega

/-- what comes out of a stream: packets, what is left, which error (with room for so many) -/
def fdF : Nat → ByteArray → List Pk × ByteArray × Int
  | 0, s => ([], s, 0)
  | f + 1, s =>
    if s.size = 0 then ([], s, 0) else if szE s = 8 then ([], s, 0) else if szE s ≠ 0 then ([], ⟨#[]⟩, szE s)
    else if decE (hd s) ≠ 0 then ([], ⟨#[]⟩, decE (hd s)) else (decP (hd s) :: (fdF f (tl s)).1, (fdF f (tl s)).2)
def fd (s : ByteArray) : List Pk × ByteArray × Int := fdF s.size s
theorem fdF_room : ∀ (f g : Nat) (s : ByteArray), s.size ≤ f → s.size ≤ g → fdF f s = fdF g s := by
  intro f
  induction f with
  | zero =>
    intro g s hf _
    cases g with
    | zero => rfl
    | succ g => rw [fdF, fdF, if_pos (by omega)]
  | succ f ih =>
    intro g s hf hg
    cases g with
    | zero => rw [fdF, fdF, if_pos (by omega)]
    | succ g =>
      rw [fdF, fdF]
      by_cases h0 : s.size = 0
      · rw [if_pos h0, if_pos h0]
      · rw [if_neg h0, if_neg h0]
        by_cases h1 : szE s = 8
        · rw [if_pos h1, if_pos h1]
        · rw [if_neg h1, if_neg h1]
          by_cases h2 : szE s ≠ 0
          · rw [if_pos h2, if_pos h2]
          · rw [if_neg h2, if_neg h2]
            have h3 := tl_size (s := s) (by omega)
            rw [ih g (tl s) (by omega) (by omega)]
section
variable {s : ByteArray}
theorem fd_nil (h : s.size = 0) : fd s = ([], s, 0) := by unfold fd; rw [h]; rfl
theorem fd_succ (h : s.size ≠ 0) : ∃ f, fd s = fdF (f + 1) s ∧ s.size = f + 1 := ⟨s.size - 1, by unfold fd; rw [show s.size - 1 + 1 = s.size by omega], by omega⟩
theorem fd_short (h : s.size ≠ 0) (h1 : szE s = 8) : fd s = ([], s, 0) := by
  obtain ⟨f, e, _⟩ := fd_succ h
  rw [e, fdF, if_neg h, if_pos h1]
theorem fd_bad (h : s.size ≠ 0) (h1 : szE s ≠ 8) (h2 : szE s ≠ 0) : fd s = ([], ⟨#[]⟩, szE s) := by
  obtain ⟨f, e, _⟩ := fd_succ h
  rw [e, fdF, if_neg h, if_neg h1, if_pos h2]
theorem fd_wrong (h : s.size ≠ 0) (h2 : szE s = 0) (h3 : decE (hd s) ≠ 0) : fd s = ([], ⟨#[]⟩, decE (hd s)) := by
  obtain ⟨f, e, _⟩ := fd_succ h
  rw [e, fdF, if_neg h, if_neg (by omega), if_neg (by simp [h2]), if_pos h3]
theorem fd_step (h : s.size ≠ 0) (h2 : szE s = 0) (h3 : decE (hd s) = 0) : fd s = (decP (hd s) :: (fd (tl s)).1, (fd (tl s)).2) := by
  obtain ⟨f, e, hf⟩ := fd_succ h
  have h4 := tl_size h2
  rw [e, fdF, if_neg h, if_neg (by omega), if_neg (by simp [h2]), if_neg (by simp [h3])]
  unfold fd
  rw [fdF_room f (tl s).size (tl s) (by omega) (Nat.le_refl _)]
end
theorem hd_app {s : ByteArray} (t : ByteArray) (h0 : s.size ≠ 0) (h : szE s = 0) : hd (s ++ t) = hd s ∧ tl (s ++ t) = tl s ++ t ∧ szE (s ++ t) = 0 ∧ (s ++ t).size ≠ 0 := by
  obtain ⟨a1, a2⟩ := sz_app t (by omega) (show szE s ≠ 8 by omega)
  have h1 := sz_ok h
  refine ⟨?_, ?_, by omega, by rw [ByteArray.size_append]; omega⟩
  · unfold hd; rw [a2]; exact ext_app_left s t _ (by omega)
  · unfold tl; rw [a2]; exact ext_app_right s t _ (by omega)
/-- a stream that came well so far: what comes behind it is as if what was left stood ahead of it -/
theorem fd_more : ∀ (n : Nat) (a b : ByteArray), a.size ≤ n → (fd a).2.2 = 0 → fd (a ++ b) = ((fd a).1 ++ (fd ((fd a).2.1 ++ b)).1, (fd ((fd a).2.1 ++ b)).2) := by
  intro n
  induction n with
  | zero =>
    intro a b hn _
    rw [fd_nil (show a.size = 0 by omega)]
    rfl
  | succ n ih =>
    intro a b hn h
    by_cases h0 : a.size = 0
    · rw [fd_nil h0]; rfl
    · by_cases h1 : szE a = 8
      · rw [fd_short h0 h1]; rfl
      · by_cases h2 : szE a = 0
        · by_cases h3 : decE (hd a) = 0
          · obtain ⟨e1, e2, e3, e4⟩ := hd_app b h0 h2
            have h4 := tl_size h2
            rw [fd_step h0 h2 h3] at h
            rw [fd_step e4 e3 (by rw [e1]; exact h3), fd_step h0 h2 h3, e1, e2, ih (tl a) b (by omega) h]
            simp only [List.cons_append]
          · rw [fd_wrong h0 h2 h3] at h; exact absurd h h3
        · rw [fd_bad h0 h1 h2] at h; exact absurd h h2
/-- a stream that has an error: what comes behind it changes nothing -/
theorem fd_err : ∀ (n : Nat) (a b : ByteArray), a.size ≤ n → (fd a).2.2 ≠ 0 → fd (a ++ b) = fd a := by
  intro n
  induction n with
  | zero =>
    intro a b hn h
    rw [fd_nil (show a.size = 0 by omega)] at h
    exact absurd rfl h
  | succ n ih =>
    intro a b hn h
    by_cases h0 : a.size = 0
    · rw [fd_nil h0] at h; exact absurd rfl h
    · by_cases h1 : szE a = 8
      · rw [fd_short h0 h1] at h; exact absurd rfl h
      · by_cases h2 : szE a = 0
        · obtain ⟨e1, e2, e3, e4⟩ := hd_app b h0 h2
          by_cases h3 : decE (hd a) = 0
          · have h4 := tl_size h2
            rw [fd_step h0 h2 h3] at h
            rw [fd_step e4 e3 (by rw [e1]; exact h3), fd_step h0 h2 h3, e1, e2, ih (tl a) b (by omega) h]
          · rw [fd_wrong e4 e3 (by rw [e1]; exact h3), fd_wrong h0 h2 h3, e1]
        · obtain ⟨a1, _⟩ := sz_app b (by omega) h1
          have e4 : (a ++ b).size ≠ 0 := by rw [ByteArray.size_append]; omega
          rw [fd_bad e4 (by omega) (by omega), fd_bad h0 h1 h2, a1]
/-- what comes is right, and there are no more than bytes -/
theorem fd_right : ∀ (n : Nat) (s : ByteArray), s.size ≤ n → (∀ p ∈ (fd s).1, p.asks.length ≤ 6 ∧ p.codes.length ≤ 6) ∧ (fd s).1.length + (fd s).2.1.size ≤ s.size := by
  intro n
  induction n with
  | zero => intro s hn; rw [fd_nil (show s.size = 0 by omega)]; simp
  | succ n ih =>
    intro s hn
    by_cases h0 : s.size = 0
    · rw [fd_nil h0]; simp
    · by_cases h1 : szE s = 8
      · rw [fd_short h0 h1]; simp
      · by_cases h2 : szE s = 0
        · by_cases h3 : decE (hd s) = 0
          · have h4 := tl_size h2
            obtain ⟨a1, a2⟩ := ih (tl s) (by omega)
            rw [fd_step h0 h2 h3]
            refine ⟨fun p hp => ?_, by simp only [List.length_cons]; omega⟩
            cases hp with
            | head =>
              have hc : chkP (rdP (hd s)) = 0 := by
                unfold decE at h3
                split at h3
                · simp at h3
                · exact h3
              have := chkP_ok hc
              rw [show decP (hd s) = rdP (hd s) from if_pos h3]
              omega
            | tail _ hp => exact a1 p hp
          · rw [fd_wrong h0 h2 h3]; exact ⟨by simp, Nat.zero_le _⟩
        · rw [fd_bad h0 h1 h2]; exact ⟨by simp, Nat.zero_le _⟩
end Go.Proofs.YtnjdpibgfbbkcabGreatDoor
/-
  Rows of packets: how they lie, how they grow.
-/
namespace Go.Proofs.YtnjdpibgfbbkcabGreatDoor
open Go.RowKit Go.PlainAid

/-- a packet, and where its two lists lie -/
structure Lp where
  p : Pk
  aa : Option Addr
  ca : Nat
  ac : Option Addr
  cc : Nat
/-- its cells -/
def lpC (q : Lp) : List Value := [.int .i64 q.p.kind, .bool q.p.dup, .bool q.p.retain, .bool q.p.clean, .bool q.p.session, .int .i64 q.p.qos, .int .i64 q.p.id, .int .i64 q.p.keep, .int .i64 q.p.code, .string q.p.client, .string q.p.topic, .string q.p.payload, .slice q.aa q.p.asks.length q.ca, .slice q.ac q.p.codes.length q.cc]
def lpCells (l : List Lp) : List Value := l.flatMap lpC
theorem lpC_len (q : Lp) : (lpC q).length = 14 := rfl
theorem lpCells_append (a b : List Lp) : lpCells (a ++ b) = lpCells a ++ lpCells b := by simp [lpCells]
theorem lpCells_cons (q : Lp) (l : List Lp) : lpCells (q :: l) = lpC q ++ lpCells l := by simp [lpCells]
theorem lpCells_one (q : Lp) : lpCells [q] = lpC q := by simp [lpCells]
theorem lpCells_len (l : List Lp) : (lpCells l).length = l.length * 14 := by
  induction l with
  | nil => rfl
  | cons a l ih => rw [lpCells_cons, List.length_append, ih, lpC_len, List.length_cons]; omega
theorem lpCells_get (l : List Lp) (i j : Nat) (h : i < l.length) (hj : j < 14) : (lpCells l)[i * 14 + j]? = (lpC l[i])[j]? := by
  induction l generalizing i with
  | nil => simp at h
  | cons a l ih =>
    rw [lpCells_cons]
    cases i with
    | zero => rw [List.getElem?_append_left (by rw [lpC_len]; omega)]; simp
    | succ i =>
      rw [List.getElem?_append_right (by rw [lpC_len]; omega), lpC_len, show (i + 1) * 14 + j - 14 = i * 14 + j by omega]
      exact ih i (by simpa using h)
theorem lpC_cell (q : Lp) : ∀ u ∈ lpC q, u.oneCell' = true := by
  intro u hu
  simp only [lpC, List.mem_cons, List.not_mem_nil, or_false] at hu
  rcases hu with rfl | rfl | rfl | rfl | rfl | rfl | rfl | rfl | rfl | rfl | rfl | rfl | rfl | rfl <;> rfl
theorem lpCells_cell (l : List Lp) : ∀ u ∈ lpCells l, u.oneCell' = true := by
  intro u hu
  simp only [lpCells, List.mem_flatMap] at hu
  obtain ⟨q, _, hu⟩ := hu
  exact lpC_cell q u hu
theorem padd_plain (b o i : Nat) : (⟨b, o, none⟩ : Addr).add i = ⟨b, o + i, none⟩ := by unfold Addr.add; split <;> simp_all

/-- its lists lie in blocks from N on, and none of them is that one -/
def Far (N : Nat) (W : World) (ob : Option Nat) (q : Lp) : Prop :=
  PkIn W q.p q.aa q.ac ∧ (q.p.asks = [] ∨ ∃ b o, q.aa = some ⟨b, o, none⟩ ∧ N ≤ b ∧ ob ≠ some b) ∧ (q.p.codes = [] ∨ ∃ b o, q.ac = some ⟨b, o, none⟩ ∧ N ≤ b ∧ ob ≠ some b)
theorem Far.keep {N : Nat} {W W' : World} {ob ob' : Option Nat} {q : Lp} (h : Far N W ob q) (hs : W.heap.size ≤ W'.heap.size) (hk : ∀ k, k < W.heap.size → N ≤ k → ob ≠ some k → W'.heap[k]? = W.heap[k]? ∧ ob' ≠ some k) : Far N W' ob' q := by
  obtain ⟨⟨h1, h2⟩, h3, h4⟩ := h
  refine ⟨⟨?_, ?_⟩, ?_, ?_⟩
  · rcases h1 with e | ⟨b, o, ha, hb, hc⟩
    · exact .inl e
    · rcases h3 with e | ⟨b', o', ha', hn, hne⟩
      · exact .inl e
      · rw [ha] at ha'
        simp only [Option.some.injEq, Addr.mk.injEq, and_true] at ha'
        obtain ⟨rfl, rfl⟩ := ha'
        have := (hk b hb hn hne).1
        exact .inr ⟨b, o, ha, by omega, fun i hi => ⟨(World.cell?_of_block (a := ⟨b, _, none⟩) this).trans (hc i hi).1, (World.cell?_of_block (a := ⟨b, _, none⟩) this).trans (hc i hi).2⟩⟩
  · rcases h2 with e | ⟨b, o, ha, hb, hc⟩
    · exact .inl e
    · rcases h4 with e | ⟨b', o', ha', hn, hne⟩
      · exact .inl e
      · rw [ha] at ha'
        simp only [Option.some.injEq, Addr.mk.injEq, and_true] at ha'
        obtain ⟨rfl, rfl⟩ := ha'
        have := (hk b hb hn hne).1
        exact .inr ⟨b, o, ha, by omega, fun i hi => (World.cell?_of_block (a := ⟨b, _, none⟩) this).trans (hc i hi)⟩
  · rcases h1 with e | ⟨b, o, ha, hb, _⟩
    · exact .inl e
    · rcases h3 with e | ⟨b', o', ha', hn, hne⟩
      · exact .inl e
      · rw [ha] at ha'
        simp only [Option.some.injEq, Addr.mk.injEq, and_true] at ha'
        obtain ⟨rfl, rfl⟩ := ha'
        exact .inr ⟨b, o, ha, hn, (hk b hb hn hne).2⟩
  · rcases h2 with e | ⟨b, o, ha, hb, _⟩
    · exact .inl e
    · rcases h4 with e | ⟨b', o', ha', hn, hne⟩
      · exact .inl e
      · rw [ha] at ha'
        simp only [Option.some.injEq, Addr.mk.injEq, and_true] at ha'
        obtain ⟨rfl, rfl⟩ := ha'
        exact .inr ⟨b, o, ha, hn, (hk b hb hn hne).2⟩
theorem Far.step {N : Nat} {W W' : World} {ob : Option Nat} {q : Lp} (h : Far N W ob q) (hb : Below W.heap.size W W') : Far N W' ob q :=
  h.keep hb.size (fun k hk _ hne => ⟨hb.block k hk, hne⟩)
theorem Far.of_new {N : Nat} {W : World} {ob : Option Nat} {q : Lp} (h : PkInB N W q.p q.aa q.ac) (hob : ∀ k, ob = some k → k < N) : Far N W ob q := by
  refine ⟨h.1, h.2.1.imp id (fun ⟨b, o, e, hb⟩ => ⟨b, o, e, hb, fun e' => ?_⟩), h.2.2.imp id (fun ⟨b, o, e, hb⟩ => ⟨b, o, e, hb, fun e' => ?_⟩)⟩
  · have := hob b e'; omega
  · have := hob b e'; omega
theorem Far.mono {N M : Nat} {W : World} {ob : Option Nat} {q : Lp} (h : Far N W ob q) (hM : M ≤ N) : Far M W ob q :=
  ⟨h.1, h.2.1.imp id (fun ⟨b, o, e, hb, hn⟩ => ⟨b, o, e, by omega, hn⟩), h.2.2.imp id (fun ⟨b, o, e, hb, hn⟩ => ⟨b, o, e, by omega, hn⟩)⟩

theorem pown_kept {w w' : World} {N : Nat} {e : TypeId} {k : Nat} {v : Value} {n : Nat} {xs : List Value} (h : w.ownsRow N e k v n xs) (hk : ∀ g, v.ownBlock = some g → w'.heap[g]? = w.heap[g]?) : w'.ownsRow N e k v n xs := by
  refine ⟨h.1, ?_⟩
  rcases h.2 with hn | ⟨g, cap, cur, rfl, hb, hg, rest⟩
  · exact .inl hn
  · exact .inr ⟨g, cap, cur, rfl, hb, by rw [hk g rfl]; exact hg, rest⟩
theorem pown_at {w : World} {N : Nat} {e : TypeId} {k : Nat} {v : Value} {n : Nat} {xs : List Value} (h : w.ownsRow N e k v n xs) {g : Nat} (hg : v.ownBlock = some g) : N ≤ g ∧ ∃ cur, w.heap[g]? = some (.cells cur e (0, 0)) := by
  rcases h.2 with ⟨rfl, _⟩ | ⟨g', cap, cur, rfl, hb, hg', _⟩
  · simp [Value.ownBlock] at hg
  · simp only [Value.ownBlock, Option.some.injEq] at hg
    subst hg
    exact ⟨hb, cur, hg'⟩
theorem pown_lt {w : World} {N : Nat} {e : TypeId} {k : Nat} {v : Value} {n : Nat} {xs : List Value} (h : w.ownsRow N e k v n xs) {g : Nat} (hg : v.ownBlock = some g) : g < w.heap.size := by
  obtain ⟨_, cur, hc⟩ := pown_at h hg
  exact (Array.getElem?_eq_some_iff.1 hc).1
theorem pown_ne {w : World} {N : Nat} {e : TypeId} {k : Nat} {v : Value} {n : Nat} {xs : List Value} (h : w.ownsRow N e k v n xs) {b : Nat} {c : Array Value} {t : TypeId} {fz : Nat × Nat} (hb : w.heap[b]? = some (.cells c t fz)) (ht : t ≠ e) : v.ownBlock ≠ some b := fun he => by
  obtain ⟨_, cur, hc⟩ := pown_at h he
  rw [hb] at hc
  simp only [Option.some.injEq, Obj.cells.injEq] at hc
  exact ht hc.2.1

/-- a row of packets that grows: all of it lies from N on -/
structure Fr (N : Nat) (w : World) (L : List Lp) (v : Value) (W : World) : Prop where
  bel : Below w.heap.size w W
  row : W.ownsRow w.heap.size 35 14 v L.length (lpCells L)
  far : ∀ q ∈ L, Far N W v.ownBlock q
section
variable {N : Nat} {w W W' : World} {L : List Lp} {v v' : Value}
theorem Fr.step (h : Fr N w L v W) (hb : Below W.heap.size W W') : Fr N w L v W' :=
  ⟨h.bel.trans (hb.mono h.bel.size), pown_kept h.row (fun g hg => hb.block g (pown_lt h.row hg)), fun q hq => (h.far q hq).step hb⟩
theorem Fr.drew (h : Fr N w L v W) : Fr N w L v W.drew := h.step (Below.drew (Below.refl _ _))
theorem Fr.alloc (h : Fr N w L v W) (o : Obj) : Fr N w L v (W.alloc o) := h.step ((Below.refl _ W).alloc (Nat.le_refl _) o)
theorem Fr.grown (h : Fr N w L v W) {Q : List Lp} {g cap : Nat} (hQ : ∀ q ∈ Q, Far N W v.ownBlock q) (hg : W.grownBy W' v.ownBlock) (hat : v.ownBlock = some g ∨ g = W.heap.size) (hr : W'.ownsRow w.heap.size 35 14 (.slice (some ⟨g, 0, none⟩) (L.length + Q.length) cap) (L.length + Q.length) (lpCells L ++ lpCells Q)) : Fr N w (L ++ Q) (.slice (some ⟨g, 0, none⟩) (L.length + Q.length) cap) W' := by
  refine ⟨Below.grown h.bel hg h.bel.size (fun g' hg' => (pown_at h.row hg').1), ?_, fun q hq => ?_⟩
  · rw [lpCells_append, List.length_append]; exact hr
  · have hq' : Far N W v.ownBlock q := by
      rcases List.mem_append.1 hq with hq | hq
      · exact h.far q hq
      · exact hQ q hq
    refine hq'.keep hg.size (fun k hk hN hne => ⟨hg.block k hk (fun e => hne e.symm), fun e => ?_⟩)
    simp only [Value.ownBlock, Option.some.injEq] at e
    subst e
    rcases hat with e | e
    · exact hne e
    · omega
end
/-- packets lie there, all of their lists from N on -/
def Lies (N : Nat) (W : World) (ao : Option Addr) (Q : List Lp) : Prop :=
  (Q = [] ∨ ∃ g o, ao = some ⟨g, o, none⟩ ∧ g < W.heap.size ∧ ∀ j u, (lpCells Q)[j]? = some u → W.cell? ⟨g, o + j, none⟩ = some u) ∧ ∀ q ∈ Q, PkInB N W q.p q.aa q.ac
theorem Lies.step {N : Nat} {W W' : World} {ao : Option Addr} {Q : List Lp} (h : Lies N W ao Q) (hb : Below W.heap.size W W') : Lies N W' ao Q :=
  ⟨h.1.imp id (fun ⟨g, o, e, hg, hc⟩ => ⟨g, o, e, Nat.lt_of_lt_of_le hg hb.size, fun j u hu => (hb.cell (p := ⟨g, o + j, none⟩) hg).trans (hc j u hu)⟩), fun q hq => ⟨(h.2 q hq).1.below hb, (h.2 q hq).2⟩⟩
theorem Lies.mono {N M : Nat} {W : World} {ao : Option Addr} {Q : List Lp} (h : Lies N W ao Q) (hM : M ≤ N) : Lies M W ao Q :=
  ⟨h.1, fun q hq => ⟨(h.2 q hq).1, (h.2 q hq).2.1.imp id (fun ⟨b, o, e, hb⟩ => ⟨b, o, e, by omega⟩), (h.2 q hq).2.2.imp id (fun ⟨b, o, e, hb⟩ => ⟨b, o, e, by omega⟩)⟩⟩
theorem Fr.lies {N : Nat} {w W : World} {L : List Lp} {ao : Option Addr} {co : Nat} (h : Fr N w L (.slice ao L.length co) W) : Lies N W ao L := by
  refine ⟨?_, fun q hq => ⟨(h.far q hq).1, (h.far q hq).2.1.imp id (fun ⟨b, o, e, hb, _⟩ => ⟨b, o, e, hb⟩), (h.far q hq).2.2.imp id (fun ⟨b, o, e, hb, _⟩ => ⟨b, o, e, hb⟩)⟩⟩
  rcases h.row.2 with ⟨_, h0⟩ | ⟨g, cap, cur, hv, hb, hg, _, _, _, htake⟩
  · exact .inl (List.length_eq_zero_iff.1 h0)
  · injection hv with ha _ _
    subst ha
    refine .inr ⟨g, 0, rfl, (Array.getElem?_eq_some_iff.1 hg).1, fun j u hu => ?_⟩
    rw [← htake, List.getElem?_take] at hu
    split at hu
    · rw [Nat.zero_add, Lib.cell_of_heap hg]
      simpa using hu
    · cases hu
/-- the cells of one of them -/
theorem Lies.at {N : Nat} {W : World} {ao : Option Addr} {Q : List Lp} (h : Lies N W ao Q) {i : Nat} (hi : i < Q.length) : ∃ g o, ao = some ⟨g, o, none⟩ ∧ g < W.heap.size ∧ ∀ j u, (lpC Q[i])[j]? = some u → W.cell? ⟨g, o + i * 14 + j, none⟩ = some u := by
  rcases h.1 with rfl | ⟨g, o, e, hg, hc⟩
  · simp at hi
  · refine ⟨g, o, e, hg, fun j u hu => ?_⟩
    have hj : j < 14 := by have := (List.getElem?_eq_some_iff.1 hu).1; rwa [lpC_len] at this
    rw [Nat.add_assoc]
    exact hc _ u (by rw [lpCells_get Q i j hi hj]; exact hu)
theorem pinfo : ∃ i0, Tryz.prog.info? 35 = some i0 ∧ i0.zero = some (.agg #[.int .i64 0, .bool false, .bool false, .bool false, .bool false, .int .i64 0, .int .i64 0, .int .i64 0, .int .i64 0, .string ⟨#[]⟩, .string ⟨#[]⟩, .string ⟨#[]⟩, .slice none 0 0, .slice none 0 0]) ∧ i0.size = 14 ∧ i0.bytes = 144 :=
  info_parts (show (Tryz.prog.info? 35).map (fun i => (i.zero, i.size, i.bytes)) = some (some (.agg #[.int .i64 0, .bool false, .bool false, .bool false, .bool false, .int .i64 0, .int .i64 0, .int .i64 0, .int .i64 0, .string ⟨#[]⟩, .string ⟨#[]⟩, .string ⟨#[]⟩, .slice none 0 0, .slice none 0 0]), 14, 144) by kernel_rfl)
section
variable {ops : Array Oper} {rest : List Oper} {o : Oper} {a : Act} {Q : Exit → Act → World → Prop} {N : Nat} {w W : World} {L : List Lp} {v : Value}
/-- a packet more, in a plain region -/
theorem wpP (hgd : o.guard = none) (x y : Operand) (ho : o.op = .call { callee := .builtin .append, args := #[x, y], argTypes := #[22, 22] })
    (hx : a.eval x = v) (g0 o0 c0 : Nat) (D : List Lp) (hy : a.eval y = .slice (some ⟨g0, o0, none⟩) D.length c0) (h0 : 0 < D.length) (hI : Fr N w L v W) (hD : ∀ j u, (lpCells D)[j]? = some u → W.cell? ⟨g0, o0 + j, none⟩ = some u) (hF : ∀ q ∈ D, Far N W v.ownBlock q) (hL : L.length + D.length ≤ 900000000001)
    (h : ∀ g cap W', Fr N w (L ++ D) (.slice (some ⟨g, 0, none⟩) (L.length + D.length) cap) W' → W.grownBy W' v.ownBlock → wpList Tryz.prog ops Q rest (a.put o.dst (.slice (some ⟨g, 0, none⟩) (L.length + D.length) cap)) W') :
    wpList Tryz.prog ops Q (o :: rest) a W := by
  obtain ⟨i0, hi, hz0, hz1, hz2⟩ := pinfo
  refine wpList_append_lies W hgd x y 22 ho w.heap.size 35 i0 _ 14 144 Tryz.underlying22 hi hz0 hz1 hz2 rfl (by decide) v L.length _ hx hI.row ⟨g0, o0, none⟩ D.length c0 (lpCells D) hy (lpCells_len D) (fun j u hu => by rw [padd_plain]; exact hD j u hu) (lpCells_cell D) h0 (by unfold maxLen; omega) (by omega) hI.bel.size _ rfl ?_
  intro g cap W' hown hgrow hat hlt
  exact h g cap W' (hI.grown hF hgrow hat hown) hgrow
/-- one packet more -/
theorem wpP1 (hgd : o.guard = none) (x y : Operand) (ho : o.op = .call { callee := .builtin .append, args := #[x, y], argTypes := #[22, 22] })
    (hx : a.eval x = v) (g0 c0 : Nat) (q : Lp) (hy : a.eval y = .slice (some ⟨g0, 0, none⟩) 1 c0) (hI : Fr N w L v W) (hD : ∀ j u, (lpC q)[j]? = some u → W.cell? ⟨g0, j, none⟩ = some u) (hF : Far N W v.ownBlock q) (hL : L.length ≤ 900000000000)
    (h : ∀ g cap W', Fr N w (L ++ [q]) (.slice (some ⟨g, 0, none⟩) (L.length + 1) cap) W' → W.grownBy W' v.ownBlock → wpList Tryz.prog ops Q rest (a.put o.dst (.slice (some ⟨g, 0, none⟩) (L.length + 1) cap)) W') :
    wpList Tryz.prog ops Q (o :: rest) a W :=
  wpP hgd x y ho hx g0 0 c0 [q] hy (by simp) hI (fun j u hu => by rw [lpCells_one] at hu; rw [Nat.zero_add]; exact hD j u hu) (fun q' hq' => by rw [List.mem_singleton] at hq'; subst hq'; exact hF) (by simp only [List.length_singleton]; omega) h
end
end Go.Proofs.YtnjdpibgfbbkcabGreatDoor
/-
  frame.Feed: what it answers.
-/
namespace Go.Proofs.YtnjdpibgfbbkcabGreatDoor
open Go.RowKit Go.PlainAid

set_option maxHeartbeats 2000000 in
theorem size_any (s : ByteArray) (w : World) (hs : s.size ≤ maxLen) :
    Calls Tryz.prog 18 #[.string s] w fun e w' => e = .returned (.tuple #[.int .i64 (szN s), .int .i64 (szE s)]) ∧ w' = w := by
  have HC : Hid (∀ W, Calls Tryz.prog 40 #[.string s, .int .i64 1] W fun e w' => e = .returned (.tuple #[.int .i64 (glR s 1).1, .int .i64 (glR s 1).2.1, .int .i64 (glR s 1).2.2]) ∧ w' = W) := fun W => getLong_any s 1 W hs
  have hb := glR_ok (s := s)
  have hN : szN s = if szE s = 0 then 1 + (glR s 1).2.1 + (glR s 1).1 else 0 := rfl
  have hE : szE s = if (glR s 1).2.2 ≠ 0 then (glR s 1).2.2 else if 600 < 1 + (glR s 1).2.1 + (glR s 1).1 then 2 else if (s.size : Int) < 1 + (glR s 1).2.1 + (glR s 1).1 then 8 else 0 := rfl
  rw [hN]
  generalize szE s = E at *
  clear hN
  generalize glR s 1 = g at *
  obtain ⟨m, u, x⟩ := g
  simp only at HC hb hE ⊢
  unfold maxLen at hs
  by_cases h1 : x = 0
  · obtain ⟨b1, b2, b3, b4⟩ := hb h1
    rw [if_neg (by simp [h1])] at hE
    clear hb
    by_cases h2 : 600 < 1 + u + m
    · rw [if_pos h2] at hE
      subst hE h1
      go_enter Tryz.func18, Tryz.ntmps18
      go_wp2_with fail
      refine (HC.out _).mono ?_
      rintro e w1 ⟨rfl, rfl⟩
      go_wp2
      go_ret2
      exact ⟨rfl, rfl⟩
    · rw [if_neg h2] at hE
      by_cases h3 : (s.size : Int) < 1 + u + m
      · rw [if_pos h3] at hE
        subst hE h1
        go_enter Tryz.func18, Tryz.ntmps18
        go_wp2_with fail
        refine (HC.out _).mono ?_
        rintro e w1 ⟨rfl, rfl⟩
        go_wp2
        go_ret2
        exact ⟨rfl, rfl⟩
      · rw [if_neg h3] at hE
        subst hE h1
        go_enter Tryz.func18, Tryz.ntmps18
        go_wp2_with fail
        refine (HC.out _).mono ?_
        rintro e w1 ⟨rfl, rfl⟩
        go_wp2
        go_ret2
        exact ⟨rfl, rfl⟩
  · rw [if_pos h1] at hE
    subst hE
    have h1' : (E != 0) = true := by simp [h1]
    rw [if_neg h1]
    clear hb
    go_enter Tryz.func18, Tryz.ntmps18
    go_wp2_with fail
    refine (HC.out _).mono ?_
    rintro e w1 ⟨rfl, rfl⟩
    go_wp2
    go_ret2
    exact ⟨rfl, rfl⟩

/-- while a stream is taken: the box of the row, and the row so far -/
def Fx (w : World) (L : List Lp) (W : World) : Prop := ∃ ao co, Fr (w.heap.size + 1) w L (.slice ao L.length co) W ∧ W.heap[w.heap.size]? = some (.cells #[.slice ao L.length co] 22 (0, 0))
theorem Fx.step {w W W' : World} {L : List Lp} (h : Fx w L W) (hb : Below W.heap.size W W') : Fx w L W' := by
  obtain ⟨ao, co, h1, h2⟩ := h
  exact ⟨ao, co, h1.step hb, (hb.block _ (Array.getElem?_eq_some_iff.1 h2).1).trans h2⟩
theorem Fx.bel {w W : World} {L : List Lp} (h : Fx w L W) : Below w.heap.size w W := by
  obtain ⟨ao, co, h1, _⟩ := h
  exact h1.bel
theorem Fr.set {w W : World} {L : List Lp} {v : Value} (h : Fr (w.heap.size + 1) w L v W) (hne : v.ownBlock ≠ some w.heap.size) (x : Value) : Fr (w.heap.size + 1) w L v (W.setCell ⟨w.heap.size, 0, none⟩ x) :=
  ⟨h.bel.setCell (p := ⟨w.heap.size, 0, none⟩) (Nat.le_refl _) x, pown_kept h.row (fun g hg => Below.heap_setCell _ _ _ _ (fun e => hne (by rw [hg]; exact congrArg some e))),
    fun q hq => (h.far q hq).keep (by simp) (fun k _ hN hne' => ⟨Below.heap_setCell _ _ _ _ (fun e => by have e' : k = w.heap.size := e; omega), hne'⟩)⟩
theorem box_set {W : World} {b : Nat} {y x : Value} {t : TypeId} (h : W.heap[b]? = some (.cells #[y] t (0, 0))) : (W.setCell ⟨b, 0, none⟩ x).heap[b]? = some (.cells #[x] t (0, 0)) := by
  simp [World.setCell, Array.getElem?_modify, h]

set_option maxHeartbeats 8000000 in
set_option maxRecDepth 100000 in
theorem take_any (s : ByteArray) (w W : World) (L : List Lp) (hs : s.size ≤ maxLen) (hm : Max w) (h : Fx w L W) (hL : L.length ≤ 900000000000) :
    Calls Tryz.prog 10 #[.string s, .pointer (some ⟨w.heap.size, 0, none⟩)] W fun e w' => e = .returned (.int .i64 (decE s)) ∧ (decE s = 0 → ∃ q, q.p = decP s ∧ Fx w (L ++ [q]) w') ∧ (decE s ≠ 0 → Fx w L w') := by
  have CD := hide (decode_any s W hs (hm.below h.bel))
  obtain ⟨ao, co, hfr, hbox⟩ := h
  have hW : w.heap.size < W.heap.size := (Array.getElem?_eq_some_iff.1 hbox).1
  have hown : Hid (∀ k, (Value.slice ao L.length co).ownBlock = some k → k < W.heap.size) := fun k e => pown_lt hfr.row e
  have HF := hide hfr
  have HB := hide hbox
  clear hfr hbox hm hs
  generalize decE s = E at *
  generalize decP s = P at *
  go_enter Tryz.func10, Tryz.ntmps10
  go_wp2_with fail
  refine CD.out.mono ?_
  rintro e w1 ⟨aa, ca, ac, cc, rfl, hin, hb⟩
  have hsz := hb.size
  have HF := hide (HF.out.step hb)
  have HB : Hid (w1.heap[w.heap.size]? = some (.cells #[.slice ao L.length co] 22 (0, 0))) := (hb.block _ hW).trans HB.out
  have HI := hide hin
  clear hb hin CD
  simp only [pkV]
  go_upto_if 12 with fail
  have HF2 := hide (HF.out.alloc (.cells (lpC ⟨P, aa, ca, ac, cc⟩).toArray 35))
  have HB2 : Hid ((w1.alloc (.cells (lpC ⟨P, aa, ca, ac, cc⟩).toArray 35)).heap[w.heap.size]? = some (.cells #[.slice ao L.length co] 22 (0, 0))) := by
    show _ = _
    rw [Below.heap_alloc _ _ _ (by omega)]; exact HB.out
  have HP2 : Hid ((w1.alloc (.cells (lpC ⟨P, aa, ca, ac, cc⟩).toArray 35)).heap[w1.heap.size]? = some (.cells (lpC ⟨P, aa, ca, ac, cc⟩).toArray 35 (0, 0))) := Go.heap_alloc_new w1 _
  have HI2 : Hid (PkInB W.heap.size (w1.alloc (.cells (lpC ⟨P, aa, ca, ac, cc⟩).toArray 35)) P aa ac) := ⟨HI.out.1.alloc _, HI.out.2⟩
  have hs2 : (w1.alloc (.cells (lpC ⟨P, aa, ca, ac, cc⟩).toArray 35)).heap.size = w1.heap.size + 1 := by simp
  clear HF HB HI
  simp only [lpC] at HF2 HB2 HP2 HI2 hs2
  revert HF2 HB2 HP2 HI2 hs2
  generalize w1.alloc (.cells #[.int .i64 P.kind, .bool P.dup, .bool P.retain, .bool P.clean, .bool P.session, .int .i64 P.qos, .int .i64 P.id, .int .i64 P.keep, .int .i64 P.code, .string P.client, .string P.topic, .string P.payload, .slice aa P.asks.length ca, .slice ac P.codes.length cc] 35) = W2
  intro HF2 HB2 HP2 HI2 hs2
  generalize w1.heap.size = b4 at *
  by_cases hE : E = 0
  · subst hE
    have x1 := fun o => Lib.cell_of_heap HP2.out o
    have x2 := fun o => Lib.cell_of_heap HB2.out o
    have HF3 := hide (HF2.out.alloc (.cells (lpC ⟨P, aa, ca, ac, cc⟩).toArray 35))
    have HB3 : Hid ((W2.alloc (.cells (lpC ⟨P, aa, ca, ac, cc⟩).toArray 35)).heap[w.heap.size]? = some (.cells #[.slice ao L.length co] 22 (0, 0))) := by
      show _ = _
      rw [Below.heap_alloc _ _ _ (by omega)]; exact HB2.out
    have HN3 : Hid (∀ j u, (lpC ⟨P, aa, ca, ac, cc⟩)[j]? = some u → (W2.alloc (.cells (lpC ⟨P, aa, ca, ac, cc⟩).toArray 35)).cell? ⟨b4 + 1, j, none⟩ = some u) := fun j u hu => by
      rw [← hs2, Lib.cell_of_heap (Go.heap_alloc_new W2 _)]
      simpa using hu
    have HR3 : Hid (Far (w.heap.size + 1) (W2.alloc (.cells (lpC ⟨P, aa, ca, ac, cc⟩).toArray 35)) (Value.slice ao L.length co).ownBlock ⟨P, aa, ca, ac, cc⟩) :=
      (Far.of_new (N := W.heap.size) (q := ⟨P, aa, ca, ac, cc⟩) ⟨HI2.out.1.alloc _, HI2.out.2⟩ hown.out).mono (by omega)
    simp only [lpC] at HF3 HB3 HN3 HR3
    have hz3 : w.heap.size < (W2.alloc (.cells #[.int .i64 P.kind, .bool P.dup, .bool P.retain, .bool P.clean, .bool P.session, .int .i64 P.qos, .int .i64 P.id, .int .i64 P.keep, .int .i64 P.code, .string P.client, .string P.topic, .string P.payload, .slice aa P.asks.length ca, .slice ac P.codes.length cc] 35)).heap.size := by simp; omega
    clear HF2 HB2 HP2 HI2 hown
    go_wp2_with (at_builtin; refine wpP1 rfl _ _ rfl rfl (b4 + 1) 1 ⟨P, aa, ca, ac, cc⟩ rfl HF3.out HN3.out HR3.out hL ?_)
    intro g cap W' hf hg
    have hne := pown_ne HF3.out.row HB3.out (by decide)
    have HB4 : Hid (W'.heap[w.heap.size]? = some (.cells #[.slice ao L.length co] 22 (0, 0))) := (hg.block _ hz3 (fun e => hne e.symm)).trans HB3.out
    have HF4 : Hid (Fr (w.heap.size + 1) w (L ++ [⟨P, aa, ca, ac, cc⟩]) (.slice (some ⟨g, 0, none⟩) (L.length + 1) cap) W') := hf
    clear hf hg hne HF3 HB3 HN3 HR3 x1 x2 hz3
    have x4 := fun o => Lib.cell_of_heap HB4.out o
    have f4 := fun o => Lib.frozen_of_heap HB4.out o
    have HXX : Hid (Fx w (L ++ [⟨P, aa, ca, ac, cc⟩]) (W'.setCell ⟨w.heap.size, 0, none⟩ (.slice (some ⟨g, 0, none⟩) (L.length + 1) cap))) := by
      refine ⟨some ⟨g, 0, none⟩, cap, ?_, ?_⟩
      · rw [List.length_append]; exact HF4.out.set (pown_ne HF4.out.row HB4.out (by decide)) _
      · rw [List.length_append]; exact box_set HB4.out
    clear HF4 HB4
    go_wp2
    go_ret
    exact ⟨rfl, ⟨P, aa, ca, ac, cc⟩, rfl, HXX.out⟩
  · have hE' : (E == 0) = false := by simp [hE]
    have HXX : Hid (Fx w L W2) := ⟨ao, co, HF2.out, HB2.out⟩
    clear HF2 HB2 HI2 HP2
    go_wp2
    go_ret
    exact ⟨rfl, fun e => absurd e hE, fun _ => HXX.out⟩

theorem cutL (s : ByteArray) : s.extract 0 s.size = s := by
  apply ByteArray.ext; apply Array.toList_inj.1
  have e : s.data.toList.length = s.size := by simp
  simp only [ByteArray.data_extract, Array.toList_extract, List.extract_eq_take_drop, List.drop_zero, Nat.sub_zero]
  exact List.take_of_length_le (by omega)
theorem cut_hd (s : ByteArray) (k n : Nat) (h : k + n ≤ s.size) : (s.extract k s.size).extract 0 n = s.extract k (k + n) := by
  apply ByteArray.ext; apply Array.toList_inj.1
  simp only [ByteArray.data_extract, Array.toList_extract, List.extract_eq_take_drop, List.drop_zero, Nat.sub_zero, List.take_take]
  congr 1
  omega
theorem cut_tl (s : ByteArray) (k n : Nat) (h : k + n ≤ s.size) : (s.extract k s.size).extract n (s.extract k s.size).size = s.extract (k + n) s.size := by
  apply ByteArray.ext; apply Array.toList_inj.1
  rw [ByteArray.size_extract]
  simp only [ByteArray.data_extract, Array.toList_extract, List.extract_eq_take_drop, List.drop_take, List.drop_drop, List.take_take]
  congr 1
  omega

/-- so far, of a stream, up to k -/
def Sofar (s : ByteArray) (w : World) (k : Nat) (L : List Lp) (W : World) : Prop := Fx w L W ∧ fd s = (L.map Lp.p ++ (fd (s.extract k s.size)).1, (fd (s.extract k s.size)).2) ∧ L.length ≤ k

set_option maxHeartbeats 8000000 in
set_option maxRecDepth 100000 in
theorem whole_any (s : ByteArray) (w W : World) (hs : s.size ≤ 900000000000) (hm : Max w) (h : Fx w [] W) :
    Calls Tryz.prog 9 #[.string s, .func (.func 10) #[] #[.pointer (some ⟨w.heap.size, 0, none⟩)]] W fun e w' => e = .returned (.tuple #[.string (fd s).2.1, .int .i64 (fd s).2.2]) ∧ ∃ Q, Q.map Lp.p = (fd s).1 ∧ Fx w Q w' := by
  have HM := hide hm
  have H0 : Hid (Sofar s w 0 [] W) := ⟨h, by rw [cutL]; rfl, Nat.le_refl _⟩
  have HE : Hid (∀ k L V, Sofar s w k L V → (fd (s.extract k s.size) = ([], s.extract k s.size, 0)) → .returned (.tuple #[.string (s.extract k s.size), .int .i64 0]) = Ending.returned (.tuple #[.string (fd s).2.1, .int .i64 (fd s).2.2]) ∧ ∃ Q, Q.map Lp.p = (fd s).1 ∧ Fx w Q V) := fun k L V hk e => by
    obtain ⟨h1, h2, _⟩ := hk
    rw [e] at h2
    rw [h2]
    exact ⟨rfl, L, by simp, h1⟩
  have HW : Hid (∀ k L V x, Sofar s w k L V → (fd (s.extract k s.size) = ([], ⟨#[]⟩, x)) → .returned (.tuple #[.string ⟨#[]⟩, .int .i64 x]) = Ending.returned (.tuple #[.string (fd s).2.1, .int .i64 (fd s).2.2]) ∧ ∃ Q, Q.map Lp.p = (fd s).1 ∧ Fx w Q V) := fun k L V x hk e => by
    obtain ⟨h1, h2, _⟩ := hk
    rw [e] at h2
    rw [h2]
    exact ⟨rfl, L, by simp, h1⟩
  clear hm h
  generalize (fd s).2.1 = A1 at *
  generalize (fd s).2.2 = A2 at *
  generalize (fd s).1 = A3 at *
  go_enter Tryz.func9, Tryz.ntmps9
  go_wp2
  go_loopw [6] (fun x wr => ∃ (k : Nat) (L : List Lp), k ≤ s.size ∧ x = .int .i64 k ∧ Hid (Sofar s w k L wr)) (fun x _ => s.size - (intOf x).toNat)
  case atStart => exact ⟨0, [], Nat.zero_le _, rfl, H0⟩
  case round =>
    obtain ⟨k, L, hk, rfl, HS⟩ := hrel
    have hsz : (s.extract k s.size).size = s.size - k := by rw [ByteArray.size_extract]; omega
    have CC := hide (fun V => clone_any (s.extract k s.size) V (by omega))
    clear H0
    by_cases hlt : k < s.size
    · have CS : Hid (∀ V, Calls Tryz.prog 18 #[.string (s.extract k s.size)] V fun e w' => e = .returned (.tuple #[.int .i64 (szN (s.extract k s.size)), .int .i64 (szE (s.extract k s.size))]) ∧ w' = V) := fun V => size_any _ V (by unfold maxLen; omega)
      have h0 : (s.extract k s.size).size ≠ 0 := by omega
      by_cases e8 : szE (s.extract k s.size) = 8
      · have HQ := hide (fd_short h0 e8)
        rw [e8] at CS
        generalize szN (s.extract k s.size) = NN at *
        clear e8 h0
        go_wp2_with fail
        refine (CS.out _).mono ?_
        rintro e w1 ⟨rfl, hw⟩
        subst hw
        go_wp2_with fail
        refine (CC.out _).mono ?_
        rintro e w2 ⟨rfl, hb⟩
        have HS2 : Hid (Sofar s w k L w2) := ⟨HS.out.1.step hb, HS.out.2⟩
        clear hb HS CS CC
        go_wp2
        go_ret2
        exact HE.out k L _ HS2.out HQ.out
      · by_cases e0 : szE (s.extract k s.size) = 0
        · have hN := sz_ok e0
          obtain ⟨n, hn⟩ : ∃ n : Nat, szN (s.extract k s.size) = n := ⟨(szN (s.extract k s.size)).toNat, by omega⟩
          have hn2 : 2 ≤ n ∧ k + n ≤ s.size := by omega
          have hhd : hd (s.extract k s.size) = s.extract k (k + n) := by unfold hd; rw [hn]; exact cut_hd s k n hn2.2
          have htl : tl (s.extract k s.size) = s.extract (k + n) s.size := by unfold tl; rw [hn]; exact cut_tl s k n hn2.2
          have CT := hide (take_any (s.extract k (k + n)) w wr L (by rw [ByteArray.size_extract]; unfold maxLen; omega) HM.out HS.out.1 (by have := HS.out.2.2; omega))
          have HQ1 : Hid (decE (s.extract k (k + n)) = 0 → ∀ q V, q.p = decP (s.extract k (k + n)) → Fx w (L ++ [q]) V → Sofar s w (k + n) (L ++ [q]) V) := fun hd0 q V hq hx => by
            have := fd_step h0 e0 (by rw [hhd]; exact hd0)
            rw [hhd, htl] at this
            refine ⟨hx, ?_, by rw [List.length_append, List.length_singleton]; have := HS.out.2.2; omega⟩
            rw [HS.out.2.1, this]
            simp [hq]
          have HQ2 : Hid (decE (s.extract k (k + n)) ≠ 0 → fd (s.extract k s.size) = ([], ⟨#[]⟩, decE (s.extract k (k + n)))) := fun hd0 => by
            have := fd_wrong h0 e0 (by rw [hhd]; exact hd0)
            rwa [hhd] at this
          have HL2 := hide HS.out.2
          rw [e0, hn] at CS
          obtain ⟨hn3, hn4⟩ := hn2
          have hk64 : (k : Int) + n ≤ s.size := by omega
          clear e8 e0 h0 hN hn hhd htl HS HM CC
          generalize decE (s.extract k (k + n)) = DE at *
          generalize decP (s.extract k (k + n)) = DP at *
          go_wp2_with fail
          refine (CS.out _).mono ?_
          rintro e w1 ⟨rfl, hw⟩
          subst hw
          go_wp2_with fail
          refine CT.out.mono ?_
          rintro e w2 ⟨rfl, h1, h2⟩
          have H1 := hide h1
          have H2 := hide h2
          clear h1 h2 CT CS
          by_cases hd0 : DE = 0
          · obtain ⟨q, hq, hx⟩ := H1.out hd0
            have HS3 := hide (HQ1.out hd0 q _ hq hx)
            subst hd0
            clear hq hx H1 H2 HQ1 HQ2
            go_wp2
            go_round
            case rel => exact ⟨k + n, L ++ [q], hn4, by go_num, HS3⟩
            case measure => simp [intOf]; omega
          · have HS3 : Hid (Sofar s w k L w2) := ⟨H2.out hd0, HL2.out⟩
            have HQ3 := hide (HQ2.out hd0)
            have hd1 : (DE != 0) = true := by simp [hd0]
            clear H1 H2 HQ1 HQ2 hd0
            go_wp2
            go_ret2
            exact HW.out k L _ _ HS3.out HQ3.out
        · have HQ := hide (fd_bad h0 e8 e0)
          generalize szE (s.extract k s.size) = EE at *
          generalize szN (s.extract k s.size) = NN at *
          have e1 : (EE == 8) = false := by simp [e8]
          have e2 : (EE != 0) = true := by simp [e0]
          clear e8 e0 h0
          go_wp2_with fail
          refine (CS.out _).mono ?_
          rintro e w1 ⟨rfl, hw⟩
          subst hw
          go_wp2
          go_ret2
          exact HW.out k L _ _ HS.out HQ.out
    · have hk' : k = s.size := by omega
      have HQ := hide (fd_nil (s := s.extract k s.size) (by omega))
      have hge : (s.size : Int) ≤ k := by omega
      have hem : s.extract k s.size = ByteArray.empty := ByteArray.ext (by rw [hk']; simp)
      rw [hem] at CC
      have HE1 := hide (HE.out k L)
      rw [hem] at HE1 HQ
      clear hem HE
      go_wp2_with fail
      refine (CC.out _).mono ?_
      rintro e w2 ⟨rfl, hb⟩
      have HS2 : Hid (Sofar s w k L w2) := ⟨HS.out.1.step hb, HS.out.2⟩
      clear hb HS CC
      go_wp2
      go_ret2
      exact HE1.out _ HS2.out HQ.out

/-- what Feed answers -/
def FeedPost (w : World) (r : List Pk × ByteArray × Int) (e : Ending) (w' : World) : Prop := ∃ ao co Q, e = .returned (.tuple #[.slice ao Q.length co, .string r.2.1, .int .i64 r.2.2]) ∧ Q.map Lp.p = r.1 ∧ Lies w.heap.size w' ao Q ∧ Below w.heap.size w w'
set_option maxHeartbeats 8000000 in
set_option maxRecDepth 100000 in
theorem feed_any (a b : ByteArray) (w : World) (hs : a.size + b.size ≤ 900000000000) (hm : Max w) : Calls Tryz.prog 4 #[.string a, .string b] w (FeedPost w (fd (a ++ b))) := by
  have H0 : Hid (Fx w [] (w.alloc (.cells #[.slice none 0 0] 22))) :=
    ⟨none, 0, ⟨(Below.refl _ _).alloc (Nat.le_refl _) _, World.ownsRow_nil _ _ _ _, fun q hq => by cases hq⟩, Go.heap_alloc_new w _⟩
  have CW := hide (fun W hW => whole_any (a ++ b) w W (by rw [ByteArray.size_append]; omega) hm hW)
  clear hm
  generalize hR : fd (a ++ b) = R at *
  clear hR
  go_enter Tryz.func4, Tryz.ntmps4
  go_wp2_with fail
  refine (CW.out _ H0.out).mono ?_
  rintro e w1 ⟨rfl, Q, hQ, ao, co, hf, hb⟩
  have HR := hide (And.intro hQ (And.intro hf.lies hf.bel))
  have x1 := fun o => Lib.cell_of_heap hb o
  clear hQ hf hb CW H0
  go_wp2
  refine bodyPost_ret (v := .tuple #[.slice ao Q.length co, .string R.2.1, .int .i64 R.2.2]) (by simp [results, Tryz.results4, go_sem]) rfl ⟨ao, co, Q, rfl, HR.out.1, HR.out.2.1.mono (by omega), HR.out.2.2⟩
end Go.Proofs.YtnjdpibgfbbkcabGreatDoor
/-
  dragomanref.SamePackets of two rows of the same packets: true; dragomanlaw.frameBegun.
-/
namespace Go.Proofs.YtnjdpibgfbbkcabGreatDoor
open Go.RowKit Go.PlainAid

theorem lp_cells {V : World} {g1 o1 k c1 e1 : Nat} {p : Pk} {a1 d1 : Option Addr} (h : ∀ j u, (lpC ⟨p, a1, c1, d1, e1⟩)[j]? = some u → V.cell? ⟨g1, o1 + k * 14 + j, none⟩ = some u) : V.cell? ⟨g1, o1 + k * 14, none⟩ = some (.int .i64 p.kind) ∧ V.cell? ⟨g1, o1 + k * 14 + 1, none⟩ = some (.bool p.dup) ∧ V.cell? ⟨g1, o1 + k * 14 + 2, none⟩ = some (.bool p.retain) ∧ V.cell? ⟨g1, o1 + k * 14 + 3, none⟩ = some (.bool p.clean) ∧ V.cell? ⟨g1, o1 + k * 14 + 4, none⟩ = some (.bool p.session) ∧ V.cell? ⟨g1, o1 + k * 14 + 5, none⟩ = some (.int .i64 p.qos) ∧ V.cell? ⟨g1, o1 + k * 14 + 6, none⟩ = some (.int .i64 p.id) ∧ V.cell? ⟨g1, o1 + k * 14 + 7, none⟩ = some (.int .i64 p.keep) ∧ V.cell? ⟨g1, o1 + k * 14 + 8, none⟩ = some (.int .i64 p.code) ∧ V.cell? ⟨g1, o1 + k * 14 + 9, none⟩ = some (.string p.client) ∧ V.cell? ⟨g1, o1 + k * 14 + 10, none⟩ = some (.string p.topic) ∧ V.cell? ⟨g1, o1 + k * 14 + 11, none⟩ = some (.string p.payload) ∧ V.cell? ⟨g1, o1 + k * 14 + 12, none⟩ = some (.slice a1 p.asks.length c1) ∧ V.cell? ⟨g1, o1 + k * 14 + 13, none⟩ = some (.slice d1 p.codes.length e1) :=
  ⟨h 0 _ rfl, h 1 _ rfl, h 2 _ rfl, h 3 _ rfl, h 4 _ rfl, h 5 _ rfl, h 6 _ rfl, h 7 _ rfl, h 8 _ rfl, h 9 _ rfl, h 10 _ rfl, h 11 _ rfl, h 12 _ rfl, h 13 _ rfl⟩
theorem lp_both {V : World} {g1 o1 g2 o2 k c1 e1 c2 e2 : Nat} {p : Pk} {a1 d1 a2 d2 : Option Addr} (h : ∀ j u, (lpC ⟨p, a1, c1, d1, e1⟩)[j]? = some u → V.cell? ⟨g1, o1 + k * 14 + j, none⟩ = some u) (i : ∀ j u, (lpC ⟨p, a2, c2, d2, e2⟩)[j]? = some u → V.cell? ⟨g2, o2 + k * 14 + j, none⟩ = some u) : V.cell? ⟨g1, o1 + k * 14, none⟩ = some (.int .i64 p.kind) ∧ V.cell? ⟨g1, o1 + k * 14 + 1, none⟩ = some (.bool p.dup) ∧ V.cell? ⟨g1, o1 + k * 14 + 2, none⟩ = some (.bool p.retain) ∧ V.cell? ⟨g1, o1 + k * 14 + 3, none⟩ = some (.bool p.clean) ∧ V.cell? ⟨g1, o1 + k * 14 + 4, none⟩ = some (.bool p.session) ∧ V.cell? ⟨g1, o1 + k * 14 + 5, none⟩ = some (.int .i64 p.qos) ∧ V.cell? ⟨g1, o1 + k * 14 + 6, none⟩ = some (.int .i64 p.id) ∧ V.cell? ⟨g1, o1 + k * 14 + 7, none⟩ = some (.int .i64 p.keep) ∧ V.cell? ⟨g1, o1 + k * 14 + 8, none⟩ = some (.int .i64 p.code) ∧ V.cell? ⟨g1, o1 + k * 14 + 9, none⟩ = some (.string p.client) ∧ V.cell? ⟨g1, o1 + k * 14 + 10, none⟩ = some (.string p.topic) ∧ V.cell? ⟨g1, o1 + k * 14 + 11, none⟩ = some (.string p.payload) ∧ V.cell? ⟨g1, o1 + k * 14 + 12, none⟩ = some (.slice a1 p.asks.length c1) ∧ V.cell? ⟨g1, o1 + k * 14 + 13, none⟩ = some (.slice d1 p.codes.length e1) ∧ V.cell? ⟨g2, o2 + k * 14, none⟩ = some (.int .i64 p.kind) ∧ V.cell? ⟨g2, o2 + k * 14 + 1, none⟩ = some (.bool p.dup) ∧ V.cell? ⟨g2, o2 + k * 14 + 2, none⟩ = some (.bool p.retain) ∧ V.cell? ⟨g2, o2 + k * 14 + 3, none⟩ = some (.bool p.clean) ∧ V.cell? ⟨g2, o2 + k * 14 + 4, none⟩ = some (.bool p.session) ∧ V.cell? ⟨g2, o2 + k * 14 + 5, none⟩ = some (.int .i64 p.qos) ∧ V.cell? ⟨g2, o2 + k * 14 + 6, none⟩ = some (.int .i64 p.id) ∧ V.cell? ⟨g2, o2 + k * 14 + 7, none⟩ = some (.int .i64 p.keep) ∧ V.cell? ⟨g2, o2 + k * 14 + 8, none⟩ = some (.int .i64 p.code) ∧ V.cell? ⟨g2, o2 + k * 14 + 9, none⟩ = some (.string p.client) ∧ V.cell? ⟨g2, o2 + k * 14 + 10, none⟩ = some (.string p.topic) ∧ V.cell? ⟨g2, o2 + k * 14 + 11, none⟩ = some (.string p.payload) ∧ V.cell? ⟨g2, o2 + k * 14 + 12, none⟩ = some (.slice a2 p.asks.length c2) ∧ V.cell? ⟨g2, o2 + k * 14 + 13, none⟩ = some (.slice d2 p.codes.length e2) :=
  ⟨h 0 _ rfl, h 1 _ rfl, h 2 _ rfl, h 3 _ rfl, h 4 _ rfl, h 5 _ rfl, h 6 _ rfl, h 7 _ rfl, h 8 _ rfl, h 9 _ rfl, h 10 _ rfl, h 11 _ rfl, h 12 _ rfl, h 13 _ rfl, i 0 _ rfl, i 1 _ rfl, i 2 _ rfl, i 3 _ rfl, i 4 _ rfl, i 5 _ rfl, i 6 _ rfl, i 7 _ rfl, i 8 _ rfl, i 9 _ rfl, i 10 _ rfl, i 11 _ rfl, i 12 _ rfl, i 13 _ rfl⟩

set_option maxHeartbeats 8000000 in
set_option maxRecDepth 100000 in
theorem samePks_yes {N M : Nat} (A B : List Lp) (aa ab : Option Addr) (ca cb : Nat) (w : World) (h1 : Lies N w aa A) (h2 : Lies M w ab B) (hp : A.map Lp.p = B.map Lp.p) (hr : ∀ q ∈ A, q.p.asks.length ≤ 6 ∧ q.p.codes.length ≤ 6) (hn : A.length ≤ 900000000001) :
    Calls Tryz.prog 8 #[.slice aa A.length ca, .slice ab B.length cb] w fun e w' => e = .returned (.bool true) ∧ Below w.heap.size w w' := by
  have hl : B.length = A.length := by have := congrArg List.length hp; simpa using this.symm
  rw [hl]
  have H1 := hide h1
  have H2 := hide h2
  have HP := hide hp
  have HR := hide hr
  have HL := hide hl
  clear h1 h2 hp hr hl
  go_enter Tryz.func8, Tryz.ntmps8
  go_wp2
  go_loopw [5] (fun x wr => ∃ k : Nat, k ≤ A.length ∧ x = .int .i64 k ∧ Hid (Below w.heap.size w wr)) (fun x _ => A.length - (intOf x).toNat)
  case atStart => exact ⟨0, Nat.zero_le _, rfl, Below.refl _ _⟩
  case round =>
    obtain ⟨k, hk, rfl, HB⟩ := hrel
    by_cases hlt : k < A.length
    · have hltB : k < B.length := by rw [HL.out]; exact hlt
      obtain ⟨g1, o1, rfl, hg1, hc1⟩ := H1.out.at hlt
      obtain ⟨g2, o2, rfl, hg2, hc2⟩ := H2.out.at hltB
      have i1 := (H1.out.2 _ (List.getElem_mem hlt)).1
      have i2 := (H2.out.2 _ (List.getElem_mem hltB)).1
      have hpe : A[k].p = B[k].p := by
        have e : (A.map Lp.p)[k]? = (B.map Lp.p)[k]? := by rw [HP.out]
        simpa [hlt, hltB] using e
      have hrr := HR.out _ (List.getElem_mem hlt)
      have hlt' : (k : Int) < A.length := by omega
      clear H1 H2 HP HR HL
      generalize A[k] = q1 at *
      generalize B[k] = q2 at *
      obtain ⟨p, a1, c1, d1, e1⟩ := q1
      obtain ⟨p', a2, c2, d2, e2⟩ := q2
      simp only at hpe hrr i1 i2
      subst hpe
      have HK : Hid (∀ V, Below w.heap.size w V → V.cell? ⟨g1, o1 + k * 14, none⟩ = some (.int .i64 p.kind) ∧ V.cell? ⟨g1, o1 + k * 14 + 1, none⟩ = some (.bool p.dup) ∧ V.cell? ⟨g1, o1 + k * 14 + 2, none⟩ = some (.bool p.retain) ∧ V.cell? ⟨g1, o1 + k * 14 + 3, none⟩ = some (.bool p.clean) ∧ V.cell? ⟨g1, o1 + k * 14 + 4, none⟩ = some (.bool p.session) ∧ V.cell? ⟨g1, o1 + k * 14 + 5, none⟩ = some (.int .i64 p.qos) ∧ V.cell? ⟨g1, o1 + k * 14 + 6, none⟩ = some (.int .i64 p.id) ∧ V.cell? ⟨g1, o1 + k * 14 + 7, none⟩ = some (.int .i64 p.keep) ∧ V.cell? ⟨g1, o1 + k * 14 + 8, none⟩ = some (.int .i64 p.code) ∧ V.cell? ⟨g1, o1 + k * 14 + 9, none⟩ = some (.string p.client) ∧ V.cell? ⟨g1, o1 + k * 14 + 10, none⟩ = some (.string p.topic) ∧ V.cell? ⟨g1, o1 + k * 14 + 11, none⟩ = some (.string p.payload) ∧ V.cell? ⟨g1, o1 + k * 14 + 12, none⟩ = some (.slice a1 p.asks.length c1) ∧ V.cell? ⟨g1, o1 + k * 14 + 13, none⟩ = some (.slice d1 p.codes.length e1) ∧ V.cell? ⟨g2, o2 + k * 14, none⟩ = some (.int .i64 p.kind) ∧ V.cell? ⟨g2, o2 + k * 14 + 1, none⟩ = some (.bool p.dup) ∧ V.cell? ⟨g2, o2 + k * 14 + 2, none⟩ = some (.bool p.retain) ∧ V.cell? ⟨g2, o2 + k * 14 + 3, none⟩ = some (.bool p.clean) ∧ V.cell? ⟨g2, o2 + k * 14 + 4, none⟩ = some (.bool p.session) ∧ V.cell? ⟨g2, o2 + k * 14 + 5, none⟩ = some (.int .i64 p.qos) ∧ V.cell? ⟨g2, o2 + k * 14 + 6, none⟩ = some (.int .i64 p.id) ∧ V.cell? ⟨g2, o2 + k * 14 + 7, none⟩ = some (.int .i64 p.keep) ∧ V.cell? ⟨g2, o2 + k * 14 + 8, none⟩ = some (.int .i64 p.code) ∧ V.cell? ⟨g2, o2 + k * 14 + 9, none⟩ = some (.string p.client) ∧ V.cell? ⟨g2, o2 + k * 14 + 10, none⟩ = some (.string p.topic) ∧ V.cell? ⟨g2, o2 + k * 14 + 11, none⟩ = some (.string p.payload) ∧ V.cell? ⟨g2, o2 + k * 14 + 12, none⟩ = some (.slice a2 p.asks.length c2) ∧ V.cell? ⟨g2, o2 + k * 14 + 13, none⟩ = some (.slice d2 p.codes.length e2)) := fun V hV => lp_both (fun j u hu => (hV.cell (p := ⟨g1, _, none⟩) hg1).trans (hc1 j u hu)) (fun j u hu => (hV.cell (p := ⟨g2, _, none⟩) hg2).trans (hc2 j u hu))
      have CS : Hid (∀ V, Below w.heap.size w V → Calls Tryz.prog 17 #[pkV p a1 c1 d1 e1, pkV p a2 c2 d2 e2] V fun e w' => e = .returned (.bool true) ∧ Below V.heap.size V w') := fun V hV => same_yes p a1 d1 a2 d2 c1 e1 c2 e2 V (i1.below hV) (i2.below hV) hrr.1 hrr.2
      simp only [pkV] at CS
      clear hc1 hc2 hg1 hg2 i1 i2 hrr hltB
      go_wp2_with fail
      have HBw := HB
      have HB := hide (below_step HB.out (Below.drew (Below.refl _ _)))
      go_region_held3 (fun w' => w'.cell? ⟨g1, o1 + k * 14, none⟩ = some (.int .i64 p.kind) ∧ w'.cell? ⟨g1, o1 + k * 14 + 1, none⟩ = some (.bool p.dup) ∧ w'.cell? ⟨g1, o1 + k * 14 + 2, none⟩ = some (.bool p.retain) ∧ w'.cell? ⟨g1, o1 + k * 14 + 3, none⟩ = some (.bool p.clean) ∧ w'.cell? ⟨g1, o1 + k * 14 + 4, none⟩ = some (.bool p.session) ∧ w'.cell? ⟨g1, o1 + k * 14 + 5, none⟩ = some (.int .i64 p.qos) ∧ w'.cell? ⟨g1, o1 + k * 14 + 6, none⟩ = some (.int .i64 p.id) ∧ w'.cell? ⟨g1, o1 + k * 14 + 7, none⟩ = some (.int .i64 p.keep) ∧ w'.cell? ⟨g1, o1 + k * 14 + 8, none⟩ = some (.int .i64 p.code) ∧ w'.cell? ⟨g1, o1 + k * 14 + 9, none⟩ = some (.string p.client) ∧ w'.cell? ⟨g1, o1 + k * 14 + 10, none⟩ = some (.string p.topic) ∧ w'.cell? ⟨g1, o1 + k * 14 + 11, none⟩ = some (.string p.payload) ∧ w'.cell? ⟨g1, o1 + k * 14 + 12, none⟩ = some (.slice a1 p.asks.length c1) ∧ w'.cell? ⟨g1, o1 + k * 14 + 13, none⟩ = some (.slice d1 p.codes.length e1) ∧ w'.cell? ⟨g2, o2 + k * 14, none⟩ = some (.int .i64 p.kind) ∧ w'.cell? ⟨g2, o2 + k * 14 + 1, none⟩ = some (.bool p.dup) ∧ w'.cell? ⟨g2, o2 + k * 14 + 2, none⟩ = some (.bool p.retain) ∧ w'.cell? ⟨g2, o2 + k * 14 + 3, none⟩ = some (.bool p.clean) ∧ w'.cell? ⟨g2, o2 + k * 14 + 4, none⟩ = some (.bool p.session) ∧ w'.cell? ⟨g2, o2 + k * 14 + 5, none⟩ = some (.int .i64 p.qos) ∧ w'.cell? ⟨g2, o2 + k * 14 + 6, none⟩ = some (.int .i64 p.id) ∧ w'.cell? ⟨g2, o2 + k * 14 + 7, none⟩ = some (.int .i64 p.keep) ∧ w'.cell? ⟨g2, o2 + k * 14 + 8, none⟩ = some (.int .i64 p.code) ∧ w'.cell? ⟨g2, o2 + k * 14 + 9, none⟩ = some (.string p.client) ∧ w'.cell? ⟨g2, o2 + k * 14 + 10, none⟩ = some (.string p.topic) ∧ w'.cell? ⟨g2, o2 + k * 14 + 11, none⟩ = some (.string p.payload) ∧ w'.cell? ⟨g2, o2 + k * 14 + 12, none⟩ = some (.slice a2 p.asks.length c2) ∧ w'.cell? ⟨g2, o2 + k * 14 + 13, none⟩ = some (.slice d2 p.codes.length e2)) (first | with_reducible exact HK.out _ HB.out | with_reducible exact HK.out _ HBw.out | go_keep)
        (first
        | (go_at_call 17; refine (CS.out _ HB.out).mono ?_; rintro e ws ⟨rfl, hbs⟩; have HB := hide (below_step HB.out hbs); clear hbs)
        | fail)
      all_goals
        clear HK CS
        go_wp2
        go_round
        case rel => exact ⟨k + 1, by omega, by go_num, HB⟩
        case measure => simp [intOf]; omega
    · have hge : (A.length : Int) ≤ k := by omega
      go_wp2
      go_ret
      exact ⟨rfl, HB.out⟩

/-- a packet's bytes ahead of a stream -/
theorem fd_enc {p : Pk} (h : chkP p = 0) (hs : (encP p).size ≤ 600) (t : ByteArray) : fd (encP p ++ t) = (p :: (fd t).1, (fd t).2) := by
  obtain ⟨u, hl, _⟩ := enc_len h
  obtain ⟨u, hu, h0, h1, h4, hle, hv⟩ := lenOk_ok hl
  have hn0 : (encP p).size ≠ 0 := by omega
  have hE : szE (encP p) = 0 := by
    unfold szE
    rw [if_neg (by simp [h0]), if_neg (by omega), if_neg (by omega)]
  have hN := (sz_ok hE).2.2.2
  have hN' : (szN (encP p)).toNat = (encP p).size := by omega
  obtain ⟨d1, d2⟩ := dec_enc h
  have hhd : hd (encP p) = encP p := by unfold hd; rw [hN']; exact cutL _
  have htl : tl (encP p) = ⟨#[]⟩ := by
    unfold tl
    rw [hN']
    apply ByteArray.ext; apply Array.toList_inj.1
    simp
  obtain ⟨b1, b2, b3, b4⟩ := hd_app t hn0 hE
  rw [fd_step b4 b3 (by rw [b1, hhd]; exact d2), b1, b2, hhd, htl, d1, str_nil]
end Go.Proofs.YtnjdpibgfbbkcabGreatDoor
/-
  dragomanlaw.frameBegun answers true.
-/
namespace Go.Proofs.YtnjdpibgfbbkcabGreatDoor
open Go.RowKit Go.PlainAid

theorem begun_fd : fd (((⟨#[50, 9, 0, 3, 97, 47, 98, 0, 10, 104, 105]⟩ : ByteArray).extract 0 3) ++ ((⟨#[50, 9, 0, 3, 97, 47, 98, 0, 10, 104, 105]⟩ : ByteArray).extract 3 11 ++ ⟨#[50, 9, 0, 3, 97, 47, 98, 0, 10, 104, 105]⟩ ++ ⟨#[48]⟩)) = ([pubPk, pubPk], ⟨#[48]⟩, 0) := by
  have e : ((⟨#[50, 9, 0, 3, 97, 47, 98, 0, 10, 104, 105]⟩ : ByteArray).extract 0 3) ++ ((⟨#[50, 9, 0, 3, 97, 47, 98, 0, 10, 104, 105]⟩ : ByteArray).extract 3 11 ++ ⟨#[50, 9, 0, 3, 97, 47, 98, 0, 10, 104, 105]⟩ ++ ⟨#[48]⟩) = encP pubPk ++ (encP pubPk ++ ⟨#[48]⟩) := by rw [pub_enc]; decide +kernel
  have h6 : (encP pubPk).size ≤ 600 := by rw [pub_enc]; decide +kernel
  rw [e, fd_enc pub_chk h6, fd_enc pub_chk h6, fd_short (s := ⟨#[48]⟩) (by decide) (by decide +kernel)]
def pubs : List Lp := [⟨pubPk, none, 0, none, 0⟩, ⟨pubPk, none, 0, none, 0⟩]
theorem pubs_lie (W : World) (b : Nat) (hb : b = W.heap.size) : Lies 0 (W.alloc (.cells #[.int .i64 3, .bool false, .bool false, .bool false, .bool false, .int .i64 1, .int .i64 10, .int .i64 0, .int .i64 0, .string ⟨#[]⟩, .string ⟨#[97, 47, 98]⟩, .string ⟨#[104, 105]⟩, .slice none 0 0, .slice none 0 0, .int .i64 3, .bool false, .bool false, .bool false, .bool false, .int .i64 1, .int .i64 10, .int .i64 0, .int .i64 0, .string ⟨#[]⟩, .string ⟨#[97, 47, 98]⟩, .string ⟨#[104, 105]⟩, .slice none 0 0, .slice none 0 0] 35)) (some ⟨b, 0, none⟩) pubs := by
  subst hb
  refine ⟨.inr ⟨W.heap.size, 0, rfl, by simp, fun j u hu => ?_⟩, fun q hq => ?_⟩
  · rw [Nat.zero_add, Lib.cell_of_heap (Go.heap_alloc_new W _)]
    rw [← hu]
    simp [lpCells, pubs, lpC, pubPk]
  · simp only [pubs, List.mem_cons, List.not_mem_nil, or_false, or_self] at hq
    subst hq
    exact ⟨⟨.inl rfl, .inl rfl⟩, .inl rfl, .inl rfl⟩

set_option maxHeartbeats 8000000 in
set_option maxRecDepth 100000 in
theorem frameBegun_yes (w : World) (hm : Max w) : Calls Tryz.prog 7 #[] w fun e w' => e = .returned (.bool true) ∧ Below w.heap.size w w' := by
  have HM := hide hm
  have CF : Hid (∀ V, Max V → Calls Tryz.prog 4 #[.string ((⟨#[50, 9, 0, 3, 97, 47, 98, 0, 10, 104, 105]⟩ : ByteArray).extract 0 3), .string ((⟨#[50, 9, 0, 3, 97, 47, 98, 0, 10, 104, 105]⟩ : ByteArray).extract 3 11 ++ ⟨#[50, 9, 0, 3, 97, 47, 98, 0, 10, 104, 105]⟩ ++ ⟨#[48]⟩)] V (FeedPost V ([pubPk, pubPk], ⟨#[48]⟩, 0))) := fun V hV => by
    have := feed_any ((⟨#[50, 9, 0, 3, 97, 47, 98, 0, 10, 104, 105]⟩ : ByteArray).extract 0 3) ((⟨#[50, 9, 0, 3, 97, 47, 98, 0, 10, 104, 105]⟩ : ByteArray).extract 3 11 ++ ⟨#[50, 9, 0, 3, 97, 47, 98, 0, 10, 104, 105]⟩ ++ ⟨#[48]⟩) V (by decide +kernel) hV
    rwa [begun_fd] at this
  clear hm
  go_enter Tryz.func7, Tryz.ntmps7
  go_wp2_with fail
  refine (pub_any _).mono ?_
  rintro e w1 ⟨rfl, hb1⟩
  have HB := hide hb1
  clear hb1
  have HE := hide (pub_encode w1 (HM.out.below HB.out))
  go_wp2_with fail
  refine HE.out.mono ?_
  rintro e w2 ⟨rfl, hb⟩
  have HB := hide (below_step HB.out hb)
  clear hb HE
  go_wp2_with fail
  have HB := hide (below_step HB.out (Below.drew (Below.refl _ _)))
  go_region_held3 (fun _ => True) (exact trivial)
    (first
    | (go_at_call 4; refine (CF.out _ (HM.out.below HB.out)).mono ?_; rintro e w3 ⟨ao, co, Q, rfl, hQ, hL, hb⟩; have HB := hide (below_step HB.out hb); have HL := hide hL; have HQ := hide hQ; clear hb hL hQ)
    | fail)
  have hq2 : Q.length = 2 := by have := congrArg List.length HQ.out; simpa using this
  clear CF
  go_wp2_with fail
  refine (pub_any _).mono ?_
  rintro e w4 ⟨rfl, hb⟩
  simp only [pkV, pubPk, List.length_nil]
  have HB := hide (below_step HB.out hb)
  have HL := hide (HL.out.step hb)
  clear hb
  go_wp2_with fail
  refine (pub_any _).mono ?_
  rintro e w5 ⟨rfl, hb⟩
  simp only [pkV, pubPk, List.length_nil]
  have HB := hide (below_step HB.out hb)
  have HL := hide (HL.out.step hb)
  clear hb
  have HB6 := hide (HB.out.alloc HB.out.size (.cells #[.int .i64 3, .bool false, .bool false, .bool false, .bool false, .int .i64 1, .int .i64 10, .int .i64 0, .int .i64 0, .string ⟨#[]⟩, .string ⟨#[97, 47, 98]⟩, .string ⟨#[104, 105]⟩, .slice none 0 0, .slice none 0 0, .int .i64 3, .bool false, .bool false, .bool false, .bool false, .int .i64 1, .int .i64 10, .int .i64 0, .int .i64 0, .string ⟨#[]⟩, .string ⟨#[97, 47, 98]⟩, .string ⟨#[104, 105]⟩, .slice none 0 0, .slice none 0 0] 35))
  have HC : Hid (Calls Tryz.prog 8 #[.slice ao Q.length co, .slice (some ⟨w5.heap.size, 0, none⟩) 2 2] (w5.alloc (.cells #[.int .i64 3, .bool false, .bool false, .bool false, .bool false, .int .i64 1, .int .i64 10, .int .i64 0, .int .i64 0, .string ⟨#[]⟩, .string ⟨#[97, 47, 98]⟩, .string ⟨#[104, 105]⟩, .slice none 0 0, .slice none 0 0, .int .i64 3, .bool false, .bool false, .bool false, .bool false, .int .i64 1, .int .i64 10, .int .i64 0, .int .i64 0, .string ⟨#[]⟩, .string ⟨#[97, 47, 98]⟩, .string ⟨#[104, 105]⟩, .slice none 0 0, .slice none 0 0] 35)) fun e w' => e = .returned (.bool true) ∧ Below (w5.alloc (.cells #[.int .i64 3, .bool false, .bool false, .bool false, .bool false, .int .i64 1, .int .i64 10, .int .i64 0, .int .i64 0, .string ⟨#[]⟩, .string ⟨#[97, 47, 98]⟩, .string ⟨#[104, 105]⟩, .slice none 0 0, .slice none 0 0, .int .i64 3, .bool false, .bool false, .bool false, .bool false, .int .i64 1, .int .i64 10, .int .i64 0, .int .i64 0, .string ⟨#[]⟩, .string ⟨#[97, 47, 98]⟩, .string ⟨#[104, 105]⟩, .slice none 0 0, .slice none 0 0] 35)).heap.size (w5.alloc (.cells #[.int .i64 3, .bool false, .bool false, .bool false, .bool false, .int .i64 1, .int .i64 10, .int .i64 0, .int .i64 0, .string ⟨#[]⟩, .string ⟨#[97, 47, 98]⟩, .string ⟨#[104, 105]⟩, .slice none 0 0, .slice none 0 0, .int .i64 3, .bool false, .bool false, .bool false, .bool false, .int .i64 1, .int .i64 10, .int .i64 0, .int .i64 0, .string ⟨#[]⟩, .string ⟨#[97, 47, 98]⟩, .string ⟨#[104, 105]⟩, .slice none 0 0, .slice none 0 0] 35)) w') :=
    samePks_yes Q pubs ao (some ⟨w5.heap.size, 0, none⟩) co 2 _ (HL.out.step ((Below.refl _ w5).alloc (Nat.le_refl _) _)) (pubs_lie w5 _ rfl) HQ.out (fun q hq => by
      have : q.p ∈ Q.map Lp.p := List.mem_map_of_mem hq
      rw [HQ.out] at this
      simp only [List.mem_cons, List.not_mem_nil, or_false, or_self] at this
      rw [this]
      decide) (by omega)
  rw [hq2] at HC
  go_wp2_with fail
  refine HC.out.mono ?_
  rintro e w6 ⟨rfl, hb⟩
  have HB7 := hide (below_step HB6.out hb)
  clear hb HC HB6 HL HQ
  go_wp2
  go_ret
  exact ⟨rfl, HB7.out⟩
end Go.Proofs.YtnjdpibgfbbkcabGreatDoor
/-
  A stream in three pieces (its maths); rows of packets behind rows of packets.
-/
namespace Go.Proofs.YtnjdpibgfbbkcabGreatDoor
open Go.RowKit Go.PlainAid

/-- a stream in three pieces -/
theorem fd_three (s1 s2 s3 : ByteArray) :
    ((fd s1).2.2 ≠ 0 → fd (s1 ++ s2 ++ s3) = fd s1) ∧
    ((fd s1).2.2 = 0 → (fd ((fd s1).2.1 ++ s2)).2.2 ≠ 0 → fd (s1 ++ s2 ++ s3) = ((fd s1).1 ++ (fd ((fd s1).2.1 ++ s2)).1, (fd ((fd s1).2.1 ++ s2)).2)) ∧
    ((fd s1).2.2 = 0 → (fd ((fd s1).2.1 ++ s2)).2.2 = 0 → fd (s1 ++ s2 ++ s3) = ((fd s1).1 ++ (fd ((fd s1).2.1 ++ s2)).1 ++ (fd ((fd ((fd s1).2.1 ++ s2)).2.1 ++ s3)).1, (fd ((fd ((fd s1).2.1 ++ s2)).2.1 ++ s3)).2)) := by
  refine ⟨fun h => ?_, fun h h2 => ?_, fun h h2 => ?_⟩
  · rw [ByteArray.append_assoc]; exact fd_err _ s1 (s2 ++ s3) (Nat.le_refl _) h
  · have e := fd_more _ s1 s2 (Nat.le_refl _) h
    rw [fd_err _ (s1 ++ s2) s3 (Nat.le_refl _) (by rw [e]; exact h2), e]
  · have e := fd_more _ s1 s2 (Nat.le_refl _) h
    rw [fd_more _ (s1 ++ s2) s3 (Nat.le_refl _) (by rw [e]; exact h2), e]
theorem three_cuts (s : ByteArray) (c m : Nat) (h : c + m ≤ s.size) : s = s.extract 0 c ++ s.extract c (c + m) ++ s.extract (c + m) s.size := by
  apply ByteArray.ext; apply Array.toList_inj.1
  have e : s.data.toList.length = s.size := by simp
  simp only [ByteArray.data_extract, Array.toList_extract, List.extract_eq_take_drop, ByteArray.data_append, Array.toList_append, List.drop_zero, Nat.sub_zero]
  rw [show c + m - c = m by omega, List.take_of_length_le (l := List.drop (c + m) s.data.toList) (by rw [List.length_drop]; omega)]
  rw [List.append_assoc, ← List.drop_drop, List.take_append_drop, List.take_append_drop]

theorem pappend_zero (W : World) (av : Option Addr) (n cv : Nat) (hv : (av = none ∧ n = 0 ∧ cv = 0) ∨ (∃ g, av = some ⟨g, 0, none⟩ ∧ n ≤ cv)) (ao : Option Addr) (co : Nat) :
    (Builtin.append_ #[22, 22] 22 #[.slice av n cv, .slice ao 0 co]).run Tryz.prog W = .ok (.slice av n cv) W := by
  obtain ⟨i0, hi, hz0, hz1, hz2⟩ := pinfo
  rcases hv with ⟨rfl, rfl, rfl⟩ | ⟨g, rfl, h⟩
  · cases ao <;> simp [Builtin.append_, run_underlying Tryz.underlying22, sizeOf, typeInfo, hi, Builtin.lenOf, Builtin.firstCells, loadCells, loadCellsFrom]
  · cases ao <;> simp [Builtin.append_, run_underlying Tryz.underlying22, sizeOf, typeInfo, hi, Builtin.lenOf, Builtin.firstCells, loadCells, loadCellsFrom, storeCells, h]
theorem prow_form {w : World} {B : Nat} {ao : Option Addr} {n k co : Nat} {xs : List Value} (h : w.ownsRow B 35 14 (.slice ao n co) k xs) : (ao = none ∧ n = 0 ∧ co = 0) ∨ (∃ g, ao = some ⟨g, 0, none⟩ ∧ n ≤ co) := by
  rcases h.2 with ⟨hv, h0⟩ | ⟨g, cap, cur, hv, hb, hg, hnc, _⟩
  · injection hv with ha hn hc
    exact .inl ⟨ha, hn, hc⟩
  · injection hv with ha hn hc
    subst hc hn
    exact .inr ⟨g, ha, hnc⟩
section
variable {ops : Array Oper} {rest : List Oper} {o : Oper} {a : Act} {Q : Exit → Act → World → Prop} {N M : Nat} {w W : World} {L : List Lp}
/-- a row behind a row, whatever its length (it may be nothing); the operation is wanted -/
theorem wpPs (hw : Region.wanted o (yielded ops a.tmps) = true) (hty : o.type = 22) (x y : Operand) (ho : o.op = .call { callee := .builtin .append, args := #[x, y], argTypes := #[22, 22] })
    (av : Option Addr) (n cv : Nat) (hx : a.eval x = .slice av n cv) (ad : Option Addr) (m cd : Nat) (hy : a.eval y = .slice ad m cd) (D : List Lp) (hm : D.length = m) (hn : L.length = n) (k : Nat) (hk : n + m = k) (hI : Fr N w L (.slice av n cv) W) (hD : Lies M W ad D) (hF : ∀ q ∈ D, Far N W (Value.slice av n cv).ownBlock q) (hL : k ≤ 900000000001)
    (h : ∀ g' c' W', Fr N w (L ++ D) (.slice g' k c') W' → W.heap.size ≤ W'.heap.size → wpList Tryz.prog ops Q rest (a.put o.dst (.slice g' k c')) W') :
    wpList Tryz.prog ops Q (o :: rest) a W := by
  refine wpList_step fun K hK => ?_
  rw [if_pos hw]
  subst hm hn hk
  rcases hD.1 with rfl | ⟨g, o0, rfl, hg, hc⟩
  · have hrun := pappend_zero W av L.length cv (prow_form hI.row) ad cd
    unfold Oper.wp execOp
    simp only [ho, resolve, invoke, builtin, Sem.run_bind, Sem.run_pure, Result.andThen_ok, List.map_toArray, List.map_cons, List.map_nil, hx, hy, hty, List.length_nil, hrun]
    have := h av cv W (by rw [List.append_nil]; exact hI) (Nat.le_refl _)
    exact hK _ _ this
  · by_cases h0 : D = []
    · subst h0
      have hrun := pappend_zero W av L.length cv (prow_form hI.row) (some ⟨g, o0, none⟩) cd
      unfold Oper.wp execOp
      simp only [ho, resolve, invoke, builtin, Sem.run_bind, Sem.run_pure, Result.andThen_ok, List.map_toArray, List.map_cons, List.map_nil, hx, hy, hty, List.length_nil, hrun]
      have := h av cv W (by rw [List.append_nil]; exact hI) (Nat.le_refl _)
      exact hK _ _ this
    · obtain ⟨i0, hi, hz0, hz1, hz2⟩ := pinfo
      have hp : 0 < D.length := List.length_pos_iff.2 h0
      refine wp_append_lies W x y 22 ho w.heap.size 35 i0 _ 14 144 Tryz.underlying22 hi hz0 hz1 hz2 rfl (by decide) (.slice av L.length cv) L.length _ hx hI.row ⟨g, o0, none⟩ D.length cd (lpCells D) hy (lpCells_len D) (fun j u hu => by rw [padd_plain]; exact hc j u hu) (lpCells_cell D) hp (by unfold maxLen; omega) (by omega) hI.bel.size _ rfl ?_
      intro g' cap W' hown hgrow hat hlt
      exact hK _ _ (h _ _ W' (hI.grown hF hgrow hat hown) hgrow.size)
end
theorem Far.of_old {Wb W : World} {ob : Option Nat} {q : Lp} (h : PkIn Wb q.p q.aa q.ac) (hb : Below Wb.heap.size Wb W) (hob : ∀ k, ob = some k → Wb.heap.size ≤ k) : Far 0 W ob q := by
  refine ⟨h.below hb, ?_, ?_⟩
  · rcases h.1 with e | ⟨b, o, ha, hlt, _⟩
    · exact .inl e
    · exact .inr ⟨b, o, ha, Nat.zero_le _, fun e => by have := hob b e; omega⟩
  · rcases h.2 with e | ⟨b, o, ha, hlt, _⟩
    · exact .inl e
    · exact .inr ⟨b, o, ha, Nat.zero_le _, fun e => by have := hob b e; omega⟩
theorem fr_new (W : World) : Fr 0 W [] (.slice (some ⟨W.heap.size, 0, none⟩) 0 0) (W.alloc (.cells #[] 35)) :=
  ⟨(Below.refl _ _).alloc (Nat.le_refl _) _, World.ownsRow_lit (base := W.heap.size) (e := 35) (size := 14) W #[] 0 (Nat.le_refl _) (by unfold maxLen; omega) rfl, fun q hq => by cases hq⟩
theorem fr_ge {N : Nat} {w W : World} {L : List Lp} {v : Value} (h : Fr N w L v W) : ∀ k, v.ownBlock = some k → w.heap.size ≤ k := fun _ e => (pown_at h.row e).1
theorem fr_lt {N : Nat} {w W : World} {L : List Lp} {v : Value} (h : Fr N w L v W) : ∀ k, v.ownBlock = some k → k < W.heap.size := fun _ e => pown_lt h.row e
end Go.Proofs.YtnjdpibgfbbkcabGreatDoor
