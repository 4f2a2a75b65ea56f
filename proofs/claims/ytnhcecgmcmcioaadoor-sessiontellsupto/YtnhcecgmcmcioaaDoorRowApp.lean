/-
  append of whatever slice (of nothing, too) to a row of one's own: one law.
-/
import Derived.Test.YtnhcecgmcmcioaaDoorRowPut
namespace Go.Proofs.YtnhcecgmcmcioaaDoor
open Go.RowKit Go.PlainAid

/-- what an append asks of its element's type -/
structure ApT (P : Program) (t e : TypeId) (size bytes : Nat) : Prop where
  ex : ∃ i z, P.info? e = some i ∧ i.zero = some z ∧ i.size = size ∧ i.bytes = bytes ∧ z.cells.size = size
  ht : P.underlying t = some (.slice e)
  pos : 0 < size
section
variable {P : Program} {t e : TypeId} {size bytes : Nat}
theorem row_form {w : World} {B n k : Nat} {av : Option Addr} {cv : Nat} {xs : List Value} (h : w.ownsRow B e k (.slice av n cv) n xs) : (av = none ∧ n = 0 ∧ cv = 0) ∨ (∃ g, av = some ⟨g, 0, none⟩ ∧ n ≤ cv) := by
  rcases h.2 with ⟨hv, h0⟩ | ⟨g, cap, cur, hv, hb, hg, hnc, _⟩
  · injection hv with ha _ hc
    exact .inl ⟨ha, h0, hc⟩
  · injection hv with ha _ hc
    subst hc
    exact .inr ⟨g, ha, hnc⟩
theorem run_append_none (h : ApT P t e size bytes) (W : World) (av : Option Addr) (n cv : Nat) (hv : (av = none ∧ n = 0 ∧ cv = 0) ∨ (∃ g, av = some ⟨g, 0, none⟩ ∧ n ≤ cv)) (ao : Option Addr) (co : Nat) :
    (Builtin.append_ #[t, t] t #[.slice av n cv, .slice ao 0 co]).run P W = .ok (.slice av n cv) W := by
  obtain ⟨i0, z, hi, hz0, hz1, hz2, hz3⟩ := h.ex
  rcases hv with ⟨rfl, rfl, rfl⟩ | ⟨g, rfl, hh⟩
  · cases ao <;> simp [Builtin.append_, run_underlying h.ht, sizeOf, typeInfo, hi, Builtin.lenOf, Builtin.firstCells, loadCells, loadCellsFrom]
  · cases ao <;> simp [Builtin.append_, run_underlying h.ht, sizeOf, typeInfo, hi, Builtin.lenOf, Builtin.firstCells, loadCells, loadCellsFrom, storeCells, hh]

variable {ops : Array Oper} {o : Oper} {a : Act} {K : Act → World → Prop} {Q : Exit → Act → World → Prop} {E : Prop} {w : World} {N : Nat}
theorem step_app (hT : ApT P t e size bytes) (hgd : o.guard = none) (s x : Operand) (ho : o.op = .call { callee := .builtin .append, args := #[s, x], argTypes := #[t, t] }) (hty : o.type = t)
    (av : Option Addr) (n cv : Nat) (xs : List Value) (hs : a.eval s = .slice av n cv) (hown : w.ownsRow N e size (.slice av n cv) n xs)
    (ad : Option Addr) (m c : Nat) (ys : List Value) (hx : a.eval x = .slice ad m c) (hl : ys.length = m * size) (hnews : m ≠ 0 → ∃ A, ad = some A ∧ ∀ j u, ys[j]? = some u → w.cell? (A.add j) = some u) (h1 : ∀ u ∈ ys, u.oneCell' = true)
    (h63 : n + m ≤ maxLen) (hbytes : (n + m) * bytes ≤ 140737488355328) (hbase : N ≤ w.heap.size)
    (h : ∀ ao' cap w', w'.ownsRow N e size (.slice ao' (n + m) cap) (n + m) (xs ++ ys) → w.grownBy w' (Value.slice av n cv).ownBlock → ((Value.slice ao' (n + m) cap).ownBlock = (Value.slice av n cv).ownBlock ∨ (Value.slice ao' (n + m) cap).ownBlock = some w.heap.size) → K (a.put o.dst (.slice ao' (n + m) cap)) w') :
    if Region.wanted o (yielded ops a.tmps) = true then Oper.wp P o a w K Q else E := by
  by_cases hm : m = 0
  · subst hm
    obtain rfl : ys = [] := List.length_eq_zero_iff.1 (by omega)
    have hw : Region.wanted o (yielded ops a.tmps) = true := by simp [Region.wanted, hgd]
    rw [if_pos hw]
    have hrun := run_append_none hT w av n cv (row_form hown) ad c
    unfold Oper.wp execOp
    simp only [ho, resolve, invoke, builtin, Sem.run_bind, Sem.run_pure, Result.andThen_ok, List.map_toArray, List.map_cons, List.map_nil, hs, hx, hty, hrun]
    exact h av cv w (by rw [List.append_nil]; exact hown) (grownBy_refl w _) (.inl rfl)
  · obtain ⟨A, rfl, hc⟩ := hnews hm
    obtain ⟨i, z, hi, hz0, hz1, hz2, hz3⟩ := hT.ex
    refine step_append_lies w hgd s x t ho N e i z size bytes hT.ht hi hz0 hz1 hz2 hz3 hT.pos (.slice av n cv) n xs hs hown A m c ys hx hl hc h1 (by omega) h63 hbytes hbase _ rfl ?_
    intro g cap w' q1 q2 q3 q4
    refine h _ cap w' q1 q2 ?_
    rcases q3 with q3 | q3
    · exact .inl q3.symm
    · exact .inr (congrArg some q3)
theorem wp_app {rest : List Oper} (hT : ApT P t e size bytes) (hgd : o.guard = none) (s x : Operand) (ho : o.op = .call { callee := .builtin .append, args := #[s, x], argTypes := #[t, t] }) (hty : o.type = t)
    (av : Option Addr) (n cv : Nat) (xs : List Value) (hs : a.eval s = .slice av n cv) (hown : w.ownsRow N e size (.slice av n cv) n xs)
    (ad : Option Addr) (m c : Nat) (ys : List Value) (hx : a.eval x = .slice ad m c) (hl : ys.length = m * size) (hnews : m ≠ 0 → ∃ A, ad = some A ∧ ∀ j u, ys[j]? = some u → w.cell? (A.add j) = some u) (h1 : ∀ u ∈ ys, u.oneCell' = true)
    (h63 : n + m ≤ maxLen) (hbytes : (n + m) * bytes ≤ 140737488355328) (hbase : N ≤ w.heap.size)
    (h : ∀ ao' cap w', w'.ownsRow N e size (.slice ao' (n + m) cap) (n + m) (xs ++ ys) → w.grownBy w' (Value.slice av n cv).ownBlock → ((Value.slice ao' (n + m) cap).ownBlock = (Value.slice av n cv).ownBlock ∨ (Value.slice ao' (n + m) cap).ownBlock = some w.heap.size) → wpList P ops Q rest (a.put o.dst (.slice ao' (n + m) cap)) w') :
    wpList P ops Q (o :: rest) a w := by
  refine wpList_plain hgd fun K hK => ?_
  have := step_app (ops := ops) (K := K) (Q := Q) (E := True) hT hgd s x ho hty av n cv xs hs hown ad m c ys hx hl hnews h1 h63 hbytes hbase (fun ao' cap w' q1 q2 q3 => hK _ _ (h ao' cap w' q1 q2 q3))
  have hw : Region.wanted o (yielded ops a.tmps) = true := by simp [Region.wanted, hgd]
  rwa [if_pos hw] at this
end
theorem add_at (b o i : Nat) : (⟨b, o, none⟩ : Addr).add i = ⟨b, o + i, none⟩ := by unfold Addr.add; split <;> simp_all
/-- a row's own cells, from a place on, as what is appended -/
theorem own_news {w : World} {N : Nat} {e : TypeId} {k g n c : Nat} {xs : List Value} (h : w.ownsRow N e k (.slice (some ⟨g, 0, none⟩) n c) n xs) (o m : Nat) (hm : o + m ≤ n * k) : ∀ j u, ((xs.drop o).take m)[j]? = some u → w.cell? ((⟨g, o, none⟩ : Addr).add j) = some u := fun j u hu => by
  rw [List.getElem?_take] at hu
  split at hu
  · rw [List.getElem?_drop] at hu
    rw [add_at, (kown_there h).1 _ (by omega)]
    exact hu
  · cases hu
theorem ap_strings : ApT Tryd.prog 43 9 1 16 :=
  ⟨by
    obtain ⟨i0, hi, hz0, hz1, hz2⟩ := info_parts (show (Tryd.prog.info? 9).map (fun i => (i.zero, i.size, i.bytes)) = some (some (.string ⟨#[]⟩), 1, 16) by kernel_rfl)
    exact ⟨i0, _, hi, hz0, hz1, hz2, rfl⟩, Tryd.underlying43, by decide⟩
theorem ap_flights : ApT Tryd.prog 22 46 3 40 :=
  ⟨by
    obtain ⟨i0, hi, hz0, hz1, hz2⟩ := info_parts (show (Tryd.prog.info? 46).map (fun i => (i.zero, i.size, i.bytes)) = some (some (.agg #[.int .i64 0, .string ⟨#[]⟩, .string ⟨#[]⟩]), 3, 40) by kernel_rfl)
    exact ⟨i0, _, hi, hz0, hz1, hz2, rfl⟩, Tryd.underlying22, by decide⟩
end Go.Proofs.YtnhcecgmcmcioaaDoor
