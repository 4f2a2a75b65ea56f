/-
  Who watches, as plain data: what is wrong with it, what is added, cancelled, told (no program in it).
-/
import Derived.Test.YtbodjfmbdddieaeDoorRowBase
namespace Go.Proofs.YtbodjfmbdddieaeDoor
open Go.RowKit Go.PlainAid

/-- who watches a topic -/
structure Wt where
  peer : Int
  token : ByteArray
  topic : ByteArray
  num : Int
deriving DecidableEq

def wtV (k : Wt) : Value := .agg #[.int .i64 k.peer, .string k.token, .string k.topic, .int .i64 k.num]
def wtZ : Wt := ⟨0, ⟨#[]⟩, ⟨#[]⟩, 0⟩
/-- they lie there -/
def WtsIn (w : World) (ao : Option Addr) (l : List Wt) : Prop :=
  l = [] ∨ ∃ b o, ao = some ⟨b, o, none⟩ ∧ b < w.heap.size ∧ ∀ i (h : i < l.length), w.cell? ⟨b, o + i * 4, none⟩ = some (.int .i64 l[i].peer) ∧ w.cell? ⟨b, o + i * 4 + 1, none⟩ = some (.string l[i].token) ∧ w.cell? ⟨b, o + i * 4 + 2, none⟩ = some (.string l[i].topic) ∧ w.cell? ⟨b, o + i * 4 + 3, none⟩ = some (.int .i64 l[i].num)
theorem WtsIn.below {w w' : World} {ao : Option Addr} {l : List Wt} (h : WtsIn w ao l) (hb : Below w.heap.size w w') : WtsIn w' ao l := by
  rcases h with h | ⟨b, o, ha, hl, hc⟩
  · exact .inl h
  · exact .inr ⟨b, o, ha, Nat.lt_of_lt_of_le hl hb.size, fun i hi => ⟨(hb.cell (p := ⟨b, _, none⟩) hl).trans (hc i hi).1, (hb.cell (p := ⟨b, _, none⟩) hl).trans (hc i hi).2.1, (hb.cell (p := ⟨b, _, none⟩) hl).trans (hc i hi).2.2.1, (hb.cell (p := ⟨b, _, none⟩) hl).trans (hc i hi).2.2.2⟩⟩
theorem wts_take {w : World} {ao : Option Addr} {l : List Wt} (h : WtsIn w ao l) (m : Nat) : WtsIn w ao (l.take m) := by
  rcases h with rfl | ⟨b, o, ha, hb, hc⟩
  · left; simp
  · exact .inr ⟨b, o, ha, hb, fun i hi => by
      have hi' : i < l.length := by simp at hi; omega
      simpa using hc i hi'⟩
theorem wts_here {w : World} {ao : Option Addr} {l : List Wt} {k : Nat} (h : WtsIn w ao l) (hlt : k < l.length) : ∃ b o, ao = some ⟨b, o, none⟩ ∧ b < w.heap.size ∧ ∀ i (h : i < l.length), w.cell? ⟨b, o + i * 4, none⟩ = some (.int .i64 l[i].peer) ∧ w.cell? ⟨b, o + i * 4 + 1, none⟩ = some (.string l[i].token) ∧ w.cell? ⟨b, o + i * 4 + 2, none⟩ = some (.string l[i].topic) ∧ w.cell? ⟨b, o + i * 4 + 3, none⟩ = some (.int .i64 l[i].num) := by
  rcases h with rfl | h
  · simp at hlt
  · exact h

def waskE (p : Int) (t : ByteArray) : Int := if p < 0 ∨ 9 < p then 3 else if 8 < t.size then 2 else 0
def seqOk (n : Int) : Bool := decide (0 ≤ n) && decide (n ≤ 16777215)
/-- what is wrong with one -/
def wchkO (k : Wt) : Int := if waskE k.peer k.token ≠ 0 then waskE k.peer k.token else if chk nameF k.topic ≠ 0 then chk nameF k.topic else if seqOk k.num = false then 3 else 0
def isW (p : Int) (t : ByteArray) (k : Wt) : Bool := decide (k.peer = p) && decide (k.token = t)
/-- .. with all: those stood ahead of them -/
def wchkL : List Wt → List Wt → Int
  | _, [] => 0
  | a, k :: l => if wchkO k ≠ 0 then wchkO k else if a.any (isW k.peer k.token) = true then 6 else wchkL (a ++ [k]) l
def wchkK (l : List Wt) : Int := if 12 < l.length then 2 else wchkL [] l
theorem wchkL_step (l : List Wt) (k : Nat) (h : k < l.length) : wchkL (l.take k) (l.drop k) = if wchkO l[k] ≠ 0 then wchkO l[k] else if (l.take k).any (isW l[k].peer l[k].token) = true then 6 else wchkL (l.take (k + 1)) (l.drop (k + 1)) := by
  rw [List.drop_eq_getElem_cons h, wchkL, List.take_succ_eq_append_getElem h]

theorem isW_ne {x y : Wt} (h : isW y.peer y.token x = false) : isW x.peer x.token y = false := by
  cases e : isW x.peer x.token y with
  | false => rfl
  | true =>
    simp only [isW, Bool.and_eq_true, decide_eq_true_eq] at e
    rw [isW, decide_eq_true e.1.symm, decide_eq_true e.2.symm] at h
    exact h
theorem wchkL_iff : ∀ (l a : List Wt), wchkL a l = 0 ↔ (∀ k ∈ l, wchkO k = 0) ∧ (∀ k ∈ l, ∀ x ∈ a, isW k.peer k.token x = false) ∧ l.Pairwise (fun x y => isW y.peer y.token x = false)
  | [], a => by simp [wchkL]
  | k :: l, a => by
    rw [wchkL]
    constructor
    · intro h
      split at h
      · rename_i h1; exact absurd h h1
      · split at h
        · simp at h
        · rename_i h1 h2
          obtain ⟨g1, g2, g3⟩ := (wchkL_iff l (a ++ [k])).1 h
          have hk : ∀ x ∈ a, isW k.peer k.token x = false := fun x hx => by
            cases e : isW k.peer k.token x with
            | false => rfl
            | true => exact absurd (List.any_eq_true.2 ⟨x, hx, e⟩) h2
          refine ⟨fun x hx => ?_, fun x hx y hy => ?_, List.pairwise_cons.2 ⟨fun y hy => g2 y hy k (by simp), g3⟩⟩
          · rcases List.mem_cons.1 hx with rfl | hx
            · exact Decidable.not_not.1 h1
            · exact g1 x hx
          · rcases List.mem_cons.1 hx with rfl | hx
            · exact hk y hy
            · exact g2 x hx y (by simp [hy])
    · rintro ⟨g1, g2, g3⟩
      have e : a.any (isW k.peer k.token) = false := by
        cases e : a.any (isW k.peer k.token) with
        | false => rfl
        | true =>
          obtain ⟨x, hx, h⟩ := List.any_eq_true.1 e
          rw [g2 k (by simp) x hx] at h
          cases h
      rw [if_neg (by simp [g1 k (by simp)]), e, if_neg (by simp)]
      refine (wchkL_iff l _).2 ⟨fun x hx => g1 x (by simp [hx]), fun x hx y hy => ?_, (List.pairwise_cons.1 g3).2⟩
      rcases List.mem_append.1 hy with hy | hy
      · exact g2 x (by simp [hx]) y hy
      · simp only [List.mem_singleton] at hy
        subst hy
        exact (List.pairwise_cons.1 g3).1 x hx
theorem wchkK_iff (l : List Wt) : wchkK l = 0 ↔ l.length ≤ 12 ∧ (∀ k ∈ l, wchkO k = 0) ∧ l.Pairwise (fun x y => isW y.peer y.token x = false) := by
  unfold wchkK
  constructor
  · intro h
    split at h
    · simp at h
    · obtain ⟨g1, _, g3⟩ := (wchkL_iff l _).1 h
      exact ⟨by omega, g1, g3⟩
  · rintro ⟨g0, g1, g3⟩
    rw [if_neg (by omega)]
    exact (wchkL_iff l _).2 ⟨g1, fun k _ x hx => by simp at hx, g3⟩
theorem wchkO_parts {k : Wt} (h : wchkO k = 0) : waskE k.peer k.token = 0 ∧ chk nameF k.topic = 0 ∧ seqOk k.num = true := by
  unfold wchkO at h
  split at h
  · rename_i h1; exact absurd h h1
  · split at h
    · rename_i h1; exact absurd h h1
    · split at h
      · simp at h
      · rename_i h1 h2 h3
        exact ⟨Decidable.not_not.1 h1, Decidable.not_not.1 h2, by cases e : seqOk k.num with | true => rfl | false => exact absurd e h3⟩
theorem wchkO_mk {k : Wt} (h1 : waskE k.peer k.token = 0) (h2 : chk nameF k.topic = 0) (h3 : seqOk k.num = true) : wchkO k = 0 := by
  unfold wchkO
  rw [if_neg (by simp [h1]), if_neg (by simp [h2]), if_neg (by simp [h3])]
theorem waskE_ok {p : Int} {t : ByteArray} (h : waskE p t = 0) : t.size ≤ 8 := by
  unfold waskE at h
  split at h
  · simp at h
  · split at h
    · simp at h
    · omega

/-- all but those of a peer and a token -/
def offW (l : List Wt) (p : Int) (t : ByteArray) : List Wt := l.filter fun k => !isW p t k
def addL (l : List Wt) (p : Int) (t n : ByteArray) : List Wt := offW l p t ++ [⟨p, t, n, 1⟩]
def addE (l : List Wt) (p : Int) (t n : ByteArray) : Int := if wchkK l ≠ 0 then wchkK l else if wchkO ⟨p, t, n, 1⟩ ≠ 0 then wchkO ⟨p, t, n, 1⟩ else if (offW l p t).length = 12 then 2 else 0
def addA (l : List Wt) (p : Int) (t n : ByteArray) : List Wt := if addE l p t n = 0 then addL l p t n else []
def canE (l : List Wt) (p : Int) (t : ByteArray) : Int := if wchkK l ≠ 0 then wchkK l else waskE p t
def canA (l : List Wt) (p : Int) (t : ByteArray) : List Wt := if canE l p t = 0 then offW l p t else []
def nextN (n : Int) : Int := if n = 16777215 then 0 else n + 1
def upW (n : ByteArray) (k : Wt) : Wt := ⟨k.peer, k.token, k.topic, if k.topic = n then nextN k.num else k.num⟩
def telL (l : List Wt) (n : ByteArray) : List Wt := l.map (upW n)
def ofT (n : ByteArray) (k : Wt) : Bool := decide (k.topic = n)
def telS (l : List Wt) (n : ByteArray) : List Wt := (telL l n).filter (ofT n)
def telE (l : List Wt) (n : ByteArray) : Int := if wchkK l ≠ 0 then wchkK l else chk nameF n
def telA (l : List Wt) (n : ByteArray) : List Wt := if telE l n = 0 then telL l n else []
def telB (l : List Wt) (n : ByteArray) : List Wt := if telE l n = 0 then telS l n else []
def freE (a b : Int) : Int := if seqOk a && seqOk b then 0 else 3
def freB (a b : Int) : Bool := seqOk a && seqOk b && ((decide (0 < b - a) && decide (b - a < 8388608)) || decide (b - a < -8388608))

theorem addE_ok {l : List Wt} {p : Int} {t n : ByteArray} (h : addE l p t n = 0) : wchkK l = 0 ∧ wchkO ⟨p, t, n, 1⟩ = 0 ∧ (offW l p t).length ≠ 12 := by
  unfold addE at h
  split at h
  · rename_i h1; exact absurd h h1
  · split at h
    · rename_i h1; exact absurd h h1
    · split at h
      · simp at h
      · rename_i h1 h2 h3; exact ⟨Decidable.not_not.1 h1, Decidable.not_not.1 h2, h3⟩
theorem off_len (l : List Wt) (p : Int) (t : ByteArray) : (offW l p t).length ≤ l.length := List.length_filter_le _ _
theorem off_mem {l : List Wt} {p : Int} {t : ByteArray} {k : Wt} (h : k ∈ offW l p t) : k ∈ l ∧ isW p t k = false := by
  obtain ⟨h1, h2⟩ := List.mem_filter.1 h
  exact ⟨h1, by simpa using h2⟩
theorem off_off (l : List Wt) (p : Int) (t : ByteArray) : offW (offW l p t) p t = offW l p t := List.filter_eq_self.2 fun k hk => by rw [(off_mem hk).2]; rfl
theorem off_check {l : List Wt} (h : wchkK l = 0) (p : Int) (t : ByteArray) : wchkK (offW l p t) = 0 := by
  obtain ⟨g0, g1, g3⟩ := (wchkK_iff l).1 h
  exact (wchkK_iff _).2 ⟨Nat.le_trans (off_len l p t) g0, fun k hk => g1 k (off_mem hk).1, g3.filter _⟩
theorem add_check {l : List Wt} {p : Int} {t n : ByteArray} (h : addE l p t n = 0) : wchkK (addL l p t n) = 0 := by
  obtain ⟨h1, h2, h3⟩ := addE_ok h
  obtain ⟨g0, g1, g3⟩ := (wchkK_iff _).1 (off_check h1 p t)
  refine (wchkK_iff _).2 ⟨by unfold addL; rw [List.length_append]; simp; omega, fun k hk => ?_, List.pairwise_append.2 ⟨g3, by simp, fun x hx y hy => ?_⟩⟩
  · rcases List.mem_append.1 hk with hk | hk
    · exact g1 k hk
    · simp only [List.mem_singleton] at hk; rw [hk]; exact h2
  · simp only [List.mem_singleton] at hy
    rw [hy]
    exact (off_mem hx).2
theorem add_off (l : List Wt) (p : Int) (t n : ByteArray) : offW (addL l p t n) p t = offW l p t := by
  unfold addL
  show (offW l p t ++ [(⟨p, t, n, 1⟩ : Wt)]).filter (fun k => !isW p t k) = _
  rw [List.filter_append]
  have e : [(⟨p, t, n, 1⟩ : Wt)].filter (fun k => !isW p t k) = [] := by simp [isW]
  rw [e, List.append_nil]
  exact off_off l p t
theorem add_twice {l : List Wt} {p : Int} {t n : ByteArray} (h : addE l p t n = 0) : addE (addL l p t n) p t n = 0 ∧ addL (addL l p t n) p t n = addL l p t n := by
  obtain ⟨h1, h2, h3⟩ := addE_ok h
  refine ⟨?_, by rw [addL, add_off]; rfl⟩
  unfold addE
  rw [add_check h, add_off, h2, if_neg (by simp), if_neg (by simp), if_neg h3]
theorem can_ok {l : List Wt} {p : Int} {t n : ByteArray} (h : addE l p t n = 0) : canE l p t = 0 ∧ canE (addL l p t n) p t = 0 := by
  obtain ⟨h1, h2, h3⟩ := addE_ok h
  unfold canE
  rw [h1, add_check h, if_neg (by simp)]
  exact ⟨(wchkO_parts h2).1, (wchkO_parts h2).1⟩
theorem seqOk_iff (n : Int) : seqOk n = true ↔ 0 ≤ n ∧ n ≤ 16777215 := by simp [seqOk]
theorem nextN_ok {n : Int} (h : seqOk n = true) : seqOk (nextN n) = true := by
  rw [seqOk_iff] at *
  unfold nextN
  split <;> omega
theorem tel_check {l : List Wt} (h : wchkK l = 0) (n : ByteArray) : wchkK (telL l n) = 0 := by
  obtain ⟨g0, g1, g3⟩ := (wchkK_iff l).1 h
  refine (wchkK_iff _).2 ⟨by unfold telL; simpa using g0, fun k hk => ?_, ?_⟩
  · obtain ⟨x, hx, rfl⟩ := List.mem_map.1 hk
    obtain ⟨a1, a2, a3⟩ := wchkO_parts (g1 x hx)
    refine wchkO_mk a1 a2 ?_
    unfold upW
    simp only
    split
    · exact nextN_ok a3
    · exact a3
  · unfold telL
    rw [List.pairwise_map]
    exact g3.imp fun h => h
theorem fre_two {a b : Int} (ha : seqOk a = true) (hb : seqOk b = true) : freE a b = 0 ∧ freB a b = ((decide (0 < b - a) && decide (b - a < 8388608)) || decide (b - a < -8388608)) := by
  unfold freE freB
  rw [ha, hb]
  exact ⟨rfl, by simp⟩
end Go.Proofs.YtbodjfmbdddieaeDoor
