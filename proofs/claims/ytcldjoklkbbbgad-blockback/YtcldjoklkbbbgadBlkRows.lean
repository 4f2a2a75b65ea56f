/-
  Rows of pieces and rows of blocks that a law makes by append, one behind the other.
-/
import Derived.Test.YtcldjoklkbbbgadBlkBegun
import Derived.Deep.AppendLies
import Derived.Deep.RegionHeld3
namespace Go.Proofs.Ytcldjoklkbbbgad
open Go.RowKit Go.PlainAid

def strCs (l : List ByteArray) : List Value := l.map .string
def bkCells (l : List Bk) : List Value := l.flatMap fun b => [.int .i64 b.num, .bool b.more, .int .i64 b.size]
theorem strCs_append (a b : List ByteArray) : strCs (a ++ b) = strCs a ++ strCs b := by simp [strCs]
theorem bkCells_append (a b : List Bk) : bkCells (a ++ b) = bkCells a ++ bkCells b := by simp [bkCells]
theorem bkCells_get (l : List Bk) (i : Nat) (h : i < l.length) : (bkCells l)[i * 3]? = some (.int .i64 l[i].num) ∧ (bkCells l)[i * 3 + 1]? = some (.bool l[i].more) ∧ (bkCells l)[i * 3 + 2]? = some (.int .i64 l[i].size) := by
  induction l generalizing i with
  | nil => simp at h
  | cons a l ih =>
    cases i with
    | zero => simp [bkCells]
    | succ i =>
      have e : bkCells (a :: l) = .int .i64 a.num :: .bool a.more :: .int .i64 a.size :: bkCells l := rfl
      have := ih i (by simpa using h)
      rw [e, show (i + 1) * 3 = i * 3 + 1 + 1 + 1 by omega, show i * 3 + 1 + 1 + 1 + 1 = (i * 3 + 1) + 1 + 1 + 1 by omega, show i * 3 + 1 + 1 + 1 + 2 = (i * 3 + 2) + 1 + 1 + 1 by omega]
      simpa using this

theorem bown_kept {w w' : World} {N : Nat} {e : TypeId} {k : Nat} {v : Value} {n : Nat} {xs : List Value} (h : w.ownsRow N e k v n xs) (hk : ∀ g, v.ownBlock = some g → w'.heap[g]? = w.heap[g]?) : w'.ownsRow N e k v n xs := by
  refine ⟨h.1, ?_⟩
  rcases h.2 with hn | ⟨g, cap, cur, rfl, hb, hg, rest⟩
  · exact .inl hn
  · exact .inr ⟨g, cap, cur, rfl, hb, by rw [hk g rfl]; exact hg, rest⟩
theorem bown_at {w : World} {N : Nat} {e : TypeId} {k : Nat} {v : Value} {n : Nat} {xs : List Value} (h : w.ownsRow N e k v n xs) {g : Nat} (hg : v.ownBlock = some g) : N ≤ g ∧ ∃ cur, w.heap[g]? = some (.cells cur e (0, 0)) := by
  rcases h.2 with ⟨rfl, _⟩ | ⟨g', cap, cur, rfl, hb, hg', _⟩
  · simp [Value.ownBlock] at hg
  · simp only [Value.ownBlock, Option.some.injEq] at hg
    subst hg
    exact ⟨hb, cur, hg'⟩
theorem bown_lt {w : World} {N : Nat} {e : TypeId} {k : Nat} {v : Value} {n : Nat} {xs : List Value} (h : w.ownsRow N e k v n xs) {g : Nat} (hg : v.ownBlock = some g) : g < w.heap.size := by
  obtain ⟨_, cur, hc⟩ := bown_at h hg
  exact (Array.getElem?_eq_some_iff.1 hc).1
theorem bown_ne {w : World} {N : Nat} {e : TypeId} {k : Nat} {v : Value} {n : Nat} {xs : List Value} (h : w.ownsRow N e k v n xs) {b : Nat} {c : Array Value} {t : TypeId} {fz : Nat × Nat} (hb : w.heap[b]? = some (.cells c t fz)) (ht : t ≠ e) : v.ownBlock ≠ some b := fun he => by
  obtain ⟨_, cur, hc⟩ := bown_at h he
  rw [hb] at hc
  simp only [Option.some.injEq, Obj.cells.injEq] at hc
  exact ht hc.2.1
theorem bown_form {w : World} {B : Nat} {e : TypeId} {size : Nat} {ao : Option Addr} {co n : Nat} {xs : List Value} (h : w.ownsRow B e size (.slice ao n co) n xs) (h0 : 0 < n) : n ≤ co ∧ ∃ g, ao = some ⟨g, 0, none⟩ := by
  rcases h.2 with ⟨_, h1⟩ | ⟨g, cap, cur, hv, hb, hg, hnc, _⟩
  · omega
  · injection hv with ha _ hc
    subst hc
    exact ⟨hnc, g, ha⟩
theorem own_strs {w : World} {B : Nat} {ao : Option Addr} {n co : Nat} {l : List ByteArray} (h : w.ownsRow B 9 1 (.slice ao n co) n (strCs l)) (m : Nat) (hn : n = l.length) : StrsIn w ao (l.take m) := by
  rcases h.2 with ⟨_, h0⟩ | ⟨g, cap, cur, hv, hb, hg, _, _, _, htake⟩
  · exact .inl (by rw [List.length_eq_zero_iff.1 (hn.symm.trans h0)]; simp)
  · injection hv with ha _ _
    subst ha
    refine .inr ⟨g, 0, rfl, (Array.getElem?_eq_some_iff.1 hg).1, fun i hi => ?_⟩
    have hi' : i < l.length := by simp at hi; omega
    have hh : (strCs l)[i]? = some (.string l[i]) := by simp [strCs, hi']
    rw [← htake, List.getElem?_take, if_pos (by omega)] at hh
    rw [Nat.zero_add, Lib.cell_of_heap hg]
    simpa using hh
theorem own_bks {w : World} {B : Nat} {ao : Option Addr} {n co : Nat} {l : List Bk} (h : w.ownsRow B 25 3 (.slice ao n co) n (bkCells l)) (m : Nat) (hn : n = l.length) : BksIn w ao (l.take m) := by
  rcases h.2 with ⟨_, h0⟩ | ⟨g, cap, cur, hv, hb, hg, _, _, _, htake⟩
  · exact .inl (by rw [List.length_eq_zero_iff.1 (hn.symm.trans h0)]; simp)
  · injection hv with ha _ _
    subst ha
    refine .inr ⟨g, 0, rfl, (Array.getElem?_eq_some_iff.1 hg).1, fun i hi => ?_⟩
    have hi' : i < l.length := by simp at hi; omega
    have hh := bkCells_get l i hi'
    rw [← htake, List.getElem?_take, List.getElem?_take, List.getElem?_take, if_pos (by omega), if_pos (by omega), if_pos (by omega)] at hh
    rw [Nat.zero_add, Lib.cell_of_heap hg, Lib.cell_of_heap hg, Lib.cell_of_heap hg]
    simpa using hh

/-- what the law holds: its pieces so far, its blocks so far, and the block that was cut last -/
structure Inv (p : ByteArray) (s : Int) (b : Nat) (blk : Obj) (w W : World) (va vb : Value) (ka kb : Nat) : Prop where
  ra : W.ownsRow w.heap.size 9 1 va ka (strCs (cutsS p s ka))
  rb : W.ownsRow w.heap.size 25 3 vb kb (bkCells (cutsB p s kb))
  at9 : W.heap[b]? = some blk
  na : va.ownBlock ≠ some b
  nb : vb.ownBlock ≠ some b
  bel : Below w.heap.size w W

theorem blk1 {W : World} {o : Obj} {b : Nat} (hb : b = W.heap.size) : (W.alloc o).heap[b]? = some o := by subst hb; exact Go.heap_alloc_new W o
theorem blk_old {W : World} {o x : Obj} {b : Nat} (h : W.heap[b]? = some x) : (W.alloc o).heap[b]? = some x := by
  rw [Below.heap_alloc _ _ _ (Array.getElem?_eq_some_iff.1 h).1]
  exact h
theorem Inv.alloc {p : ByteArray} {s : Int} {b : Nat} {blk : Obj} {w W : World} {va vb : Value} {ka kb : Nat} (h : Inv p s b blk w W va vb ka kb) (o : Obj) : Inv p s b blk w (W.alloc o) va vb ka kb :=
  ⟨h.ra.alloc _, h.rb.alloc _, blk_old h.at9, h.na, h.nb, h.bel.alloc h.bel.size o⟩
theorem Inv.drew {p : ByteArray} {s : Int} {b : Nat} {blk : Obj} {w W : World} {va vb : Value} {ka kb : Nat} (h : Inv p s b blk w W va vb ka kb) : Inv p s b blk w W.drew va vb ka kb :=
  ⟨h.ra, h.rb, h.at9, h.na, h.nb, h.bel.drew⟩
theorem Inv.fin {p : ByteArray} {s : Int} {b : Nat} {blk : Obj} {w W : World} (k ga ca gb cb : Nat) (h : Inv p s b blk w W (.slice (some ⟨ga, 0, none⟩) (k + 1) ca) (.slice (some ⟨gb, 0, none⟩) (k + 1) cb) (k + 1) (k + 1)) : Inv p s b blk w W (.slice (some ⟨ga, 0, none⟩) (k + 1) ca) (.slice (some ⟨gb, 0, none⟩) (k + 1) cb) (k + 1) (k + 1) := h

theorem Inv.cell {p : ByteArray} {s : Int} {b : Nat} {c : Array Value} {w W : World} {va vb : Value} {ka kb : Nat} (h : Inv p s b (.cells c 25 (0, 0)) w W va vb ka kb) (o : Nat) : W.cell? ⟨b, o, none⟩ = c[o]? := Lib.cell_of_heap h.at9 o

section
variable {ops : Array Oper} {o : Oper} {a : Act} {K : Act → World → Prop} {Q : Exit → Act → World → Prop} {E : Prop} {p : ByteArray} {s : Int} {b : Nat} {blk : Obj} {w W : World} {va vb : Value} {k kb : Nat}
theorem stepA (hgd : o.guard = none) (x y : Operand) (ho : o.op = .call { callee := .builtin .append, args := #[x, y], argTypes := #[30, 30] })
    (hx : a.eval x = va) (B : Nat) (hy : a.eval y = .slice (some ⟨B, 0, none⟩) 1 1) (hI : Inv p s b blk w W va vb k kb) (S : ByteArray) (hS : cutS p k s = S) (hB : W.heap[B]? = some (.cells #[.string S] 9 (0, 0))) (hk : k ≤ 200)
    (h : ∀ g cap W', Inv p s b blk w W' (.slice (some ⟨g, 0, none⟩) (k + 1) cap) vb (k + 1) kb → (∀ (C : Nat) (c : Array Value), W.heap[C]? = some (.cells c 25 (0, 0)) → W'.heap[C]? = some (.cells c 25 (0, 0))) → K (a.put o.dst (.slice (some ⟨g, 0, none⟩) (k + 1) cap)) W') :
    if Region.wanted o (yielded ops a.tmps) = true then Oper.wp Try.prog o a W K Q else E := by
  subst hS
  obtain ⟨i0, hi, hz0, hz1, hz2⟩ := info_parts (show (Try.prog.info? 9).map (fun i => (i.zero, i.size, i.bytes)) = some (some (.string ⟨#[]⟩), 1, 16) by kernel_rfl)
  refine step_append_lies W hgd x y 30 ho w.heap.size 9 i0 _ 1 16 Try.underlying30 hi hz0 hz1 hz2 rfl (by decide) va k _ hx hI.ra ⟨B, 0, none⟩ 1 1 [.string (cutS p k s)] hy rfl (World.news_of_block hB) (by simp [Value.oneCell']) (by decide) (by unfold maxLen; omega) (by omega) hI.bel.size _ rfl ?_
  intro g cap W' hown hgrow hat hlt
  have hbl : ∀ C, C < W.heap.size → va.ownBlock ≠ some C → W'.heap[C]? = W.heap[C]? := fun C h1 h2 => hgrow.block C h1 (fun e => h2 e.symm)
  refine h g cap W' ⟨?_, bown_kept hI.rb fun g' hg' => hbl g' (bown_lt hI.rb hg') ?_, ?_, ?_, hI.nb, ?_⟩ ?_
  · rw [cutsS_succ, strCs_append]; exact hown
  · obtain ⟨_, c, hc⟩ := bown_at hI.rb hg'
    exact bown_ne hI.ra hc (by decide)
  · rw [hbl b (Array.getElem?_eq_some_iff.1 hI.at9).1 hI.na]; exact hI.at9
  · intro e
    simp only [Value.ownBlock, Option.some.injEq] at e
    subst e
    rcases hat with h1 | h1
    · exact hI.na h1
    · have := (Array.getElem?_eq_some_iff.1 hI.at9).1; omega
  · exact Below.grown hI.bel hgrow hI.bel.size (fun g' hg' => (bown_at hI.ra hg').1)
  · intro C c hc
    rw [hbl C (Array.getElem?_eq_some_iff.1 hc).1 (bown_ne hI.ra hc (by decide))]
    exact hc
theorem stepB (hgd : o.guard = none) (x y : Operand) (ho : o.op = .call { callee := .builtin .append, args := #[x, y], argTypes := #[31, 31] })
    (hx : a.eval x = vb) (B : Nat) (hy : a.eval y = .slice (some ⟨B, 0, none⟩) 1 1) (hI : Inv p s b blk w W va vb k kb) (M : Bool) (hM : (cutB p kb s).more = M) (hB : W.heap[B]? = some (.cells #[.int .i64 kb, .bool M, .int .i64 s] 25 (0, 0))) (hk : kb ≤ 200)
    (h : ∀ g cap W', Inv p s b blk w W' va (.slice (some ⟨g, 0, none⟩) (kb + 1) cap) k (kb + 1) → (∀ (C : Nat) (c : Array Value), W.heap[C]? = some (.cells c 9 (0, 0)) → W'.heap[C]? = some (.cells c 9 (0, 0))) → K (a.put o.dst (.slice (some ⟨g, 0, none⟩) (kb + 1) cap)) W') :
    if Region.wanted o (yielded ops a.tmps) = true then Oper.wp Try.prog o a W K Q else E := by
  subst hM
  obtain ⟨i0, hi, hz0, hz1, hz2⟩ := info_parts (show (Try.prog.info? 25).map (fun i => (i.zero, i.size, i.bytes)) = some (some (.agg #[.int .i64 0, .bool false, .int .i64 0]), 3, 24) by kernel_rfl)
  refine step_append_lies W hgd x y 31 ho w.heap.size 25 i0 _ 3 24 Try.underlying31 hi hz0 hz1 hz2 rfl (by decide) vb kb _ hx hI.rb ⟨B, 0, none⟩ 1 1 [.int .i64 (cutB p kb s).num, .bool (cutB p kb s).more, .int .i64 (cutB p kb s).size] hy rfl (World.news_of_block hB) (by simp [Value.oneCell']) (by decide) (by unfold maxLen; omega) (by omega) hI.bel.size _ rfl ?_
  intro g cap W' hown hgrow hat hlt
  have hbl : ∀ C, C < W.heap.size → vb.ownBlock ≠ some C → W'.heap[C]? = W.heap[C]? := fun C h1 h2 => hgrow.block C h1 (fun e => h2 e.symm)
  refine h g cap W' ⟨bown_kept hI.ra fun g' hg' => hbl g' (bown_lt hI.ra hg') ?_, ?_, ?_, hI.na, ?_, ?_⟩ ?_
  · obtain ⟨_, c, hc⟩ := bown_at hI.ra hg'
    exact bown_ne hI.rb hc (by decide)
  · rw [cutsB_succ, bkCells_append]; exact hown
  · rw [hbl b (Array.getElem?_eq_some_iff.1 hI.at9).1 hI.nb]; exact hI.at9
  · intro e
    simp only [Value.ownBlock, Option.some.injEq] at e
    subst e
    rcases hat with h1 | h1
    · exact hI.nb h1
    · have := (Array.getElem?_eq_some_iff.1 hI.at9).1; omega
  · exact Below.grown hI.bel hgrow hI.bel.size (fun g' hg' => (bown_at hI.rb hg').1)
  · intro C c hc
    rw [hbl C (Array.getElem?_eq_some_iff.1 hc).1 (bown_ne hI.rb hc (by decide))]
    exact hc
end
end Go.Proofs.Ytcldjoklkbbbgad
