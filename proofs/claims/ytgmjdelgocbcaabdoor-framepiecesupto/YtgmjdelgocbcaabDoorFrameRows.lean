/-
  Rows of packets: how they lie, how they grow.
-/
import Derived.Test.YtgmjdelgocbcaabDoorFrameMath
import Derived.Deep.AppendLies
namespace Go.Proofs.YtgmjdelgocbcaabDoor
open Go.RowKit Go.PlainAid

/-- a packet, and where its two lists lie -/
structure Lp where
  p : Pk
  aa : Option Addr
  ca : Nat
  ac : Option Addr
  cc : Nat
/-- its cells -/
def lpC (q : Lp) : List Value := [.int .i64 q.p.kind, .bool q.p.dup, .bool q.p.retain, .bool q.p.clean, .bool q.p.session, .int .i64 q.p.qos, .int .i64 q.p.id, .int .i64 q.p.keep, .int .i64 q.p.code, .string q.p.client, .string q.p.topic, .string q.p.payload, .slice q.aa q.p.asks.length q.ca, .slice q.ac q.p.codes.length q.cc]
def lpCells (l : List Lp) : List Value := l.flatMap lpC
theorem lpC_len (q : Lp) : (lpC q).length = 14 := rfl
theorem lpCells_append (a b : List Lp) : lpCells (a ++ b) = lpCells a ++ lpCells b := by simp [lpCells]
theorem lpCells_cons (q : Lp) (l : List Lp) : lpCells (q :: l) = lpC q ++ lpCells l := by simp [lpCells]
theorem lpCells_one (q : Lp) : lpCells [q] = lpC q := by simp [lpCells]
theorem lpCells_len (l : List Lp) : (lpCells l).length = l.length * 14 := by
  induction l with
  | nil => rfl
  | cons a l ih => rw [lpCells_cons, List.length_append, ih, lpC_len, List.length_cons]; omega
theorem lpCells_get (l : List Lp) (i j : Nat) (h : i < l.length) (hj : j < 14) : (lpCells l)[i * 14 + j]? = (lpC l[i])[j]? := by
  induction l generalizing i with
  | nil => simp at h
  | cons a l ih =>
    rw [lpCells_cons]
    cases i with
    | zero => rw [List.getElem?_append_left (by rw [lpC_len]; omega)]; simp
    | succ i =>
      rw [List.getElem?_append_right (by rw [lpC_len]; omega), lpC_len, show (i + 1) * 14 + j - 14 = i * 14 + j by omega]
      exact ih i (by simpa using h)
theorem lpC_cell (q : Lp) : ∀ u ∈ lpC q, u.oneCell' = true := by
  intro u hu
  simp only [lpC, List.mem_cons, List.not_mem_nil, or_false] at hu
  rcases hu with rfl | rfl | rfl | rfl | rfl | rfl | rfl | rfl | rfl | rfl | rfl | rfl | rfl | rfl <;> rfl
theorem lpCells_cell (l : List Lp) : ∀ u ∈ lpCells l, u.oneCell' = true := by
  intro u hu
  simp only [lpCells, List.mem_flatMap] at hu
  obtain ⟨q, _, hu⟩ := hu
  exact lpC_cell q u hu
theorem padd_plain (b o i : Nat) : (⟨b, o, none⟩ : Addr).add i = ⟨b, o + i, none⟩ := by unfold Addr.add; split <;> simp_all

/-- its lists lie in blocks from N on, and none of them is that one -/
def Far (N : Nat) (W : World) (ob : Option Nat) (q : Lp) : Prop :=
  PkIn W q.p q.aa q.ac ∧ (q.p.asks = [] ∨ ∃ b o, q.aa = some ⟨b, o, none⟩ ∧ N ≤ b ∧ ob ≠ some b) ∧ (q.p.codes = [] ∨ ∃ b o, q.ac = some ⟨b, o, none⟩ ∧ N ≤ b ∧ ob ≠ some b)
theorem Far.keep {N : Nat} {W W' : World} {ob ob' : Option Nat} {q : Lp} (h : Far N W ob q) (hs : W.heap.size ≤ W'.heap.size) (hk : ∀ k, k < W.heap.size → N ≤ k → ob ≠ some k → W'.heap[k]? = W.heap[k]? ∧ ob' ≠ some k) : Far N W' ob' q := by
  obtain ⟨⟨h1, h2⟩, h3, h4⟩ := h
  refine ⟨⟨?_, ?_⟩, ?_, ?_⟩
  · rcases h1 with e | ⟨b, o, ha, hb, hc⟩
    · exact .inl e
    · rcases h3 with e | ⟨b', o', ha', hn, hne⟩
      · exact .inl e
      · rw [ha] at ha'
        simp only [Option.some.injEq, Addr.mk.injEq, and_true] at ha'
        obtain ⟨rfl, rfl⟩ := ha'
        have := (hk b hb hn hne).1
        exact .inr ⟨b, o, ha, by omega, fun i hi => ⟨(World.cell?_of_block (a := ⟨b, _, none⟩) this).trans (hc i hi).1, (World.cell?_of_block (a := ⟨b, _, none⟩) this).trans (hc i hi).2⟩⟩
  · rcases h2 with e | ⟨b, o, ha, hb, hc⟩
    · exact .inl e
    · rcases h4 with e | ⟨b', o', ha', hn, hne⟩
      · exact .inl e
      · rw [ha] at ha'
        simp only [Option.some.injEq, Addr.mk.injEq, and_true] at ha'
        obtain ⟨rfl, rfl⟩ := ha'
        have := (hk b hb hn hne).1
        exact .inr ⟨b, o, ha, by omega, fun i hi => (World.cell?_of_block (a := ⟨b, _, none⟩) this).trans (hc i hi)⟩
  · rcases h1 with e | ⟨b, o, ha, hb, _⟩
    · exact .inl e
    · rcases h3 with e | ⟨b', o', ha', hn, hne⟩
      · exact .inl e
      · rw [ha] at ha'
        simp only [Option.some.injEq, Addr.mk.injEq, and_true] at ha'
        obtain ⟨rfl, rfl⟩ := ha'
        exact .inr ⟨b, o, ha, hn, (hk b hb hn hne).2⟩
  · rcases h2 with e | ⟨b, o, ha, hb, _⟩
    · exact .inl e
    · rcases h4 with e | ⟨b', o', ha', hn, hne⟩
      · exact .inl e
      · rw [ha] at ha'
        simp only [Option.some.injEq, Addr.mk.injEq, and_true] at ha'
        obtain ⟨rfl, rfl⟩ := ha'
        exact .inr ⟨b, o, ha, hn, (hk b hb hn hne).2⟩
theorem Far.step {N : Nat} {W W' : World} {ob : Option Nat} {q : Lp} (h : Far N W ob q) (hb : Below W.heap.size W W') : Far N W' ob q :=
  h.keep hb.size (fun k hk _ hne => ⟨hb.block k hk, hne⟩)
theorem Far.of_new {N : Nat} {W : World} {ob : Option Nat} {q : Lp} (h : PkInB N W q.p q.aa q.ac) (hob : ∀ k, ob = some k → k < N) : Far N W ob q := by
  refine ⟨h.1, h.2.1.imp id (fun ⟨b, o, e, hb⟩ => ⟨b, o, e, hb, fun e' => ?_⟩), h.2.2.imp id (fun ⟨b, o, e, hb⟩ => ⟨b, o, e, hb, fun e' => ?_⟩)⟩
  · have := hob b e'; omega
  · have := hob b e'; omega
theorem Far.mono {N M : Nat} {W : World} {ob : Option Nat} {q : Lp} (h : Far N W ob q) (hM : M ≤ N) : Far M W ob q :=
  ⟨h.1, h.2.1.imp id (fun ⟨b, o, e, hb, hn⟩ => ⟨b, o, e, by omega, hn⟩), h.2.2.imp id (fun ⟨b, o, e, hb, hn⟩ => ⟨b, o, e, by omega, hn⟩)⟩

theorem pown_kept {w w' : World} {N : Nat} {e : TypeId} {k : Nat} {v : Value} {n : Nat} {xs : List Value} (h : w.ownsRow N e k v n xs) (hk : ∀ g, v.ownBlock = some g → w'.heap[g]? = w.heap[g]?) : w'.ownsRow N e k v n xs := by
  refine ⟨h.1, ?_⟩
  rcases h.2 with hn | ⟨g, cap, cur, rfl, hb, hg, rest⟩
  · exact .inl hn
  · exact .inr ⟨g, cap, cur, rfl, hb, by rw [hk g rfl]; exact hg, rest⟩
theorem pown_at {w : World} {N : Nat} {e : TypeId} {k : Nat} {v : Value} {n : Nat} {xs : List Value} (h : w.ownsRow N e k v n xs) {g : Nat} (hg : v.ownBlock = some g) : N ≤ g ∧ ∃ cur, w.heap[g]? = some (.cells cur e (0, 0)) := by
  rcases h.2 with ⟨rfl, _⟩ | ⟨g', cap, cur, rfl, hb, hg', _⟩
  · simp [Value.ownBlock] at hg
  · simp only [Value.ownBlock, Option.some.injEq] at hg
    subst hg
    exact ⟨hb, cur, hg'⟩
theorem pown_lt {w : World} {N : Nat} {e : TypeId} {k : Nat} {v : Value} {n : Nat} {xs : List Value} (h : w.ownsRow N e k v n xs) {g : Nat} (hg : v.ownBlock = some g) : g < w.heap.size := by
  obtain ⟨_, cur, hc⟩ := pown_at h hg
  exact (Array.getElem?_eq_some_iff.1 hc).1
theorem pown_ne {w : World} {N : Nat} {e : TypeId} {k : Nat} {v : Value} {n : Nat} {xs : List Value} (h : w.ownsRow N e k v n xs) {b : Nat} {c : Array Value} {t : TypeId} {fz : Nat × Nat} (hb : w.heap[b]? = some (.cells c t fz)) (ht : t ≠ e) : v.ownBlock ≠ some b := fun he => by
  obtain ⟨_, cur, hc⟩ := pown_at h he
  rw [hb] at hc
  simp only [Option.some.injEq, Obj.cells.injEq] at hc
  exact ht hc.2.1

/-- a row of packets that grows: all of it lies from N on -/
structure Fr (N : Nat) (w : World) (L : List Lp) (v : Value) (W : World) : Prop where
  bel : Below w.heap.size w W
  row : W.ownsRow w.heap.size 25 14 v L.length (lpCells L)
  far : ∀ q ∈ L, Far N W v.ownBlock q
section
variable {N : Nat} {w W W' : World} {L : List Lp} {v v' : Value}
theorem Fr.step (h : Fr N w L v W) (hb : Below W.heap.size W W') : Fr N w L v W' :=
  ⟨h.bel.trans (hb.mono h.bel.size), pown_kept h.row (fun g hg => hb.block g (pown_lt h.row hg)), fun q hq => (h.far q hq).step hb⟩
theorem Fr.drew (h : Fr N w L v W) : Fr N w L v W.drew := h.step (Below.drew (Below.refl _ _))
theorem Fr.alloc (h : Fr N w L v W) (o : Obj) : Fr N w L v (W.alloc o) := h.step ((Below.refl _ W).alloc (Nat.le_refl _) o)
theorem Fr.grown (h : Fr N w L v W) {Q : List Lp} {g cap : Nat} (hQ : ∀ q ∈ Q, Far N W v.ownBlock q) (hg : W.grownBy W' v.ownBlock) (hat : v.ownBlock = some g ∨ g = W.heap.size) (hr : W'.ownsRow w.heap.size 25 14 (.slice (some ⟨g, 0, none⟩) (L.length + Q.length) cap) (L.length + Q.length) (lpCells L ++ lpCells Q)) : Fr N w (L ++ Q) (.slice (some ⟨g, 0, none⟩) (L.length + Q.length) cap) W' := by
  refine ⟨Below.grown h.bel hg h.bel.size (fun g' hg' => (pown_at h.row hg').1), ?_, fun q hq => ?_⟩
  · rw [lpCells_append, List.length_append]; exact hr
  · have hq' : Far N W v.ownBlock q := by
      rcases List.mem_append.1 hq with hq | hq
      · exact h.far q hq
      · exact hQ q hq
    refine hq'.keep hg.size (fun k hk hN hne => ⟨hg.block k hk (fun e => hne e.symm), fun e => ?_⟩)
    simp only [Value.ownBlock, Option.some.injEq] at e
    subst e
    rcases hat with e | e
    · exact hne e
    · omega
end
/-- packets lie there, all of their lists from N on -/
def Lies (N : Nat) (W : World) (ao : Option Addr) (Q : List Lp) : Prop :=
  (Q = [] ∨ ∃ g o, ao = some ⟨g, o, none⟩ ∧ g < W.heap.size ∧ ∀ j u, (lpCells Q)[j]? = some u → W.cell? ⟨g, o + j, none⟩ = some u) ∧ ∀ q ∈ Q, PkInB N W q.p q.aa q.ac
theorem Lies.step {N : Nat} {W W' : World} {ao : Option Addr} {Q : List Lp} (h : Lies N W ao Q) (hb : Below W.heap.size W W') : Lies N W' ao Q :=
  ⟨h.1.imp id (fun ⟨g, o, e, hg, hc⟩ => ⟨g, o, e, Nat.lt_of_lt_of_le hg hb.size, fun j u hu => (hb.cell (p := ⟨g, o + j, none⟩) hg).trans (hc j u hu)⟩), fun q hq => ⟨(h.2 q hq).1.below hb, (h.2 q hq).2⟩⟩
theorem Lies.mono {N M : Nat} {W : World} {ao : Option Addr} {Q : List Lp} (h : Lies N W ao Q) (hM : M ≤ N) : Lies M W ao Q :=
  ⟨h.1, fun q hq => ⟨(h.2 q hq).1, (h.2 q hq).2.1.imp id (fun ⟨b, o, e, hb⟩ => ⟨b, o, e, by omega⟩), (h.2 q hq).2.2.imp id (fun ⟨b, o, e, hb⟩ => ⟨b, o, e, by omega⟩)⟩⟩
theorem Fr.lies {N : Nat} {w W : World} {L : List Lp} {ao : Option Addr} {co : Nat} (h : Fr N w L (.slice ao L.length co) W) : Lies N W ao L := by
  refine ⟨?_, fun q hq => ⟨(h.far q hq).1, (h.far q hq).2.1.imp id (fun ⟨b, o, e, hb, _⟩ => ⟨b, o, e, hb⟩), (h.far q hq).2.2.imp id (fun ⟨b, o, e, hb, _⟩ => ⟨b, o, e, hb⟩)⟩⟩
  rcases h.row.2 with ⟨_, h0⟩ | ⟨g, cap, cur, hv, hb, hg, _, _, _, htake⟩
  · exact .inl (List.length_eq_zero_iff.1 h0)
  · injection hv with ha _ _
    subst ha
    refine .inr ⟨g, 0, rfl, (Array.getElem?_eq_some_iff.1 hg).1, fun j u hu => ?_⟩
    rw [← htake, List.getElem?_take] at hu
    split at hu
    · rw [Nat.zero_add, Lib.cell_of_heap hg]
      simpa using hu
    · cases hu
/-- the cells of one of them -/
theorem Lies.at {N : Nat} {W : World} {ao : Option Addr} {Q : List Lp} (h : Lies N W ao Q) {i : Nat} (hi : i < Q.length) : ∃ g o, ao = some ⟨g, o, none⟩ ∧ g < W.heap.size ∧ ∀ j u, (lpC Q[i])[j]? = some u → W.cell? ⟨g, o + i * 14 + j, none⟩ = some u := by
  rcases h.1 with rfl | ⟨g, o, e, hg, hc⟩
  · simp at hi
  · refine ⟨g, o, e, hg, fun j u hu => ?_⟩
    have hj : j < 14 := by have := (List.getElem?_eq_some_iff.1 hu).1; rwa [lpC_len] at this
    rw [Nat.add_assoc]
    exact hc _ u (by rw [lpCells_get Q i j hi hj]; exact hu)
theorem pinfo : ∃ i0, Tryd.prog.info? 25 = some i0 ∧ i0.zero = some (.agg #[.int .i64 0, .bool false, .bool false, .bool false, .bool false, .int .i64 0, .int .i64 0, .int .i64 0, .int .i64 0, .string ⟨#[]⟩, .string ⟨#[]⟩, .string ⟨#[]⟩, .slice none 0 0, .slice none 0 0]) ∧ i0.size = 14 ∧ i0.bytes = 144 :=
  info_parts (show (Tryd.prog.info? 25).map (fun i => (i.zero, i.size, i.bytes)) = some (some (.agg #[.int .i64 0, .bool false, .bool false, .bool false, .bool false, .int .i64 0, .int .i64 0, .int .i64 0, .int .i64 0, .string ⟨#[]⟩, .string ⟨#[]⟩, .string ⟨#[]⟩, .slice none 0 0, .slice none 0 0]), 14, 144) by kernel_rfl)
section
variable {ops : Array Oper} {rest : List Oper} {o : Oper} {a : Act} {Q : Exit → Act → World → Prop} {N : Nat} {w W : World} {L : List Lp} {v : Value}
/-- a packet more, in a plain region -/
theorem wpP (hgd : o.guard = none) (x y : Operand) (ho : o.op = .call { callee := .builtin .append, args := #[x, y], argTypes := #[36, 36] })
    (hx : a.eval x = v) (g0 o0 c0 : Nat) (D : List Lp) (hy : a.eval y = .slice (some ⟨g0, o0, none⟩) D.length c0) (h0 : 0 < D.length) (hI : Fr N w L v W) (hD : ∀ j u, (lpCells D)[j]? = some u → W.cell? ⟨g0, o0 + j, none⟩ = some u) (hF : ∀ q ∈ D, Far N W v.ownBlock q) (hL : L.length + D.length ≤ 900000000001)
    (h : ∀ g cap W', Fr N w (L ++ D) (.slice (some ⟨g, 0, none⟩) (L.length + D.length) cap) W' → W.grownBy W' v.ownBlock → wpList Tryd.prog ops Q rest (a.put o.dst (.slice (some ⟨g, 0, none⟩) (L.length + D.length) cap)) W') :
    wpList Tryd.prog ops Q (o :: rest) a W := by
  obtain ⟨i0, hi, hz0, hz1, hz2⟩ := pinfo
  refine wpList_append_lies W hgd x y 36 ho w.heap.size 25 i0 _ 14 144 Tryd.underlying36 hi hz0 hz1 hz2 rfl (by decide) v L.length _ hx hI.row ⟨g0, o0, none⟩ D.length c0 (lpCells D) hy (lpCells_len D) (fun j u hu => by rw [padd_plain]; exact hD j u hu) (lpCells_cell D) h0 (by unfold maxLen; omega) (by omega) hI.bel.size _ rfl ?_
  intro g cap W' hown hgrow hat hlt
  exact h g cap W' (hI.grown hF hgrow hat hown) hgrow
/-- one packet more -/
theorem wpP1 (hgd : o.guard = none) (x y : Operand) (ho : o.op = .call { callee := .builtin .append, args := #[x, y], argTypes := #[36, 36] })
    (hx : a.eval x = v) (g0 c0 : Nat) (q : Lp) (hy : a.eval y = .slice (some ⟨g0, 0, none⟩) 1 c0) (hI : Fr N w L v W) (hD : ∀ j u, (lpC q)[j]? = some u → W.cell? ⟨g0, j, none⟩ = some u) (hF : Far N W v.ownBlock q) (hL : L.length ≤ 900000000000)
    (h : ∀ g cap W', Fr N w (L ++ [q]) (.slice (some ⟨g, 0, none⟩) (L.length + 1) cap) W' → W.grownBy W' v.ownBlock → wpList Tryd.prog ops Q rest (a.put o.dst (.slice (some ⟨g, 0, none⟩) (L.length + 1) cap)) W') :
    wpList Tryd.prog ops Q (o :: rest) a W :=
  wpP hgd x y ho hx g0 0 c0 [q] hy (by simp) hI (fun j u hu => by rw [lpCells_one] at hu; rw [Nat.zero_add]; exact hD j u hu) (fun q' hq' => by rw [List.mem_singleton] at hq'; subst hq'; exact hF) (by simp only [List.length_singleton]; omega) h
end
end Go.Proofs.YtgmjdelgocbcaabDoor
