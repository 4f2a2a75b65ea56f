/-
  option.with and the function literals: what they answer.
-/
import Derived.Test.YtgmjdelgocbcaacDoorOptWithout
import Derived.Test.YtgmjdelgocbcaacDoorBlkStrs
namespace Go.Proofs.YtgmjdelgocbcaacDoor
open Go.RowKit Go.PlainAid

theorem olit_lt (k : Op2) (c : Nat) (n : Int) (w : World) (hc : w.cell? ⟨c, 0, none⟩ = some (.int .i64 n)) (hz : c < w.heap.size) : Calls Tryd.prog 43 #[oV k, .pointer (some ⟨c, 0, none⟩)] w fun e w' => e = .returned (.bool (!decide (k.1 < n))) ∧ Below w.heap.size w w' := by
  obtain ⟨x, s⟩ := k
  simp only [oV]
  have HB := hide ((Below.refl w.heap.size w).alloc (Nat.le_refl _) (.cells #[.int .i64 x, .string s] 31))
  have hne : c ≠ w.heap.size := by omega
  have HT : Hid (decide (n ≤ x) = !decide (x < n)) := by show _ = _; rw [← decide_not]; exact decide_eq_decide.2 (by omega)
  go_enter Tryd.func43, Tryd.ntmps43
  go_wp2
  go_ret
  exact ⟨by rw [← HT.out]; rfl, HB.out⟩
theorem olit_gt (k : Op2) (c : Nat) (n : Int) (w : World) (hc : w.cell? ⟨c, 0, none⟩ = some (.int .i64 n)) (hz : c < w.heap.size) : Calls Tryd.prog 45 #[oV k, .pointer (some ⟨c, 0, none⟩)] w fun e w' => e = .returned (.bool (!decide (n < k.1))) ∧ Below w.heap.size w w' := by
  obtain ⟨x, s⟩ := k
  simp only [oV]
  have HB := hide ((Below.refl w.heap.size w).alloc (Nat.le_refl _) (.cells #[.int .i64 x, .string s] 31))
  have hne : c ≠ w.heap.size := by omega
  have HT : Hid (decide (x ≤ n) = !decide (n < x)) := by show _ = _; rw [← decide_not]; exact decide_eq_decide.2 (by omega)
  go_enter Tryd.func45, Tryd.ntmps45
  go_wp2
  go_ret
  exact ⟨by rw [← HT.out]; rfl, HB.out⟩
theorem olit_is (k : Op2) (c : Nat) (n : Int) (w : World) (hc : w.cell? ⟨c, 0, none⟩ = some (.int .i64 n)) (hz : c < w.heap.size) : Calls Tryd.prog 48 #[oV k, .pointer (some ⟨c, 0, none⟩)] w fun e w' => e = .returned (.bool (!decide (k.1 = n))) ∧ Below w.heap.size w w' := by
  obtain ⟨x, s⟩ := k
  simp only [oV]
  have HB := hide ((Below.refl w.heap.size w).alloc (Nat.le_refl _) (.cells #[.int .i64 x, .string s] 31))
  have hne : c ≠ w.heap.size := by omega
  have HT : Hid ((x != n) = !decide (x = n)) := by show _ = _; by_cases h : x = n <;> simp [h]
  go_enter Tryd.func48, Tryd.ntmps48
  go_wp2
  go_ret
  exact ⟨by rw [← HT.out]; rfl, HB.out⟩

theorem oappend_zero (W : World) (av : Option Addr) (n cv : Nat) (hv : (av = none ∧ n = 0 ∧ cv = 0) ∨ (∃ g, av = some ⟨g, 0, none⟩ ∧ n ≤ cv)) (ao : Option Addr) (co : Nat) :
    (Builtin.append_ #[22, 22] 22 #[.slice av n cv, .slice ao 0 co]).run Tryd.prog W = .ok (.slice av n cv) W := by
  obtain ⟨i0, hi, hz0, hz1, hz2⟩ := info_parts (show (Tryd.prog.info? 31).map (fun i => (i.zero, i.size, i.bytes)) = some (some (.agg #[.int .i64 0, .string ⟨#[]⟩]), 2, 24) by kernel_rfl)
  rcases hv with ⟨rfl, rfl, rfl⟩ | ⟨g, rfl, h⟩
  · cases ao <;> simp [Builtin.append_, run_underlying Tryd.underlying22, sizeOf, typeInfo, hi, Builtin.lenOf, Builtin.firstCells, loadCells, loadCellsFrom]
  · cases ao <;> simp [Builtin.append_, run_underlying Tryd.underlying22, sizeOf, typeInfo, hi, Builtin.lenOf, Builtin.firstCells, loadCells, loadCellsFrom, storeCells, h]
theorem owpList_none {P : Program} {ops : Array Oper} {rest : List Oper} {o : Oper} {a : Act} {W : World} {Q : Exit → Act → World → Prop} (hgd : o.guard = none) (s x : Operand) (t : TypeId)
    (ho : o.op = .call { callee := .builtin .append, args := #[s, x], argTypes := #[t, t] }) (v y : Value) (hs : a.eval s = v) (hx : a.eval x = y) (hrun : (Builtin.append_ #[t, t] o.type #[v, y]).run P W = .ok v W) (h : wpList P ops Q rest (a.put o.dst v) W) :
    wpList P ops Q (o :: rest) a W := by
  refine wpList_plain hgd fun K hK => ?_
  unfold Oper.wp execOp
  simp only [ho, resolve, invoke, builtin, Sem.run_bind, Sem.run_pure, Result.andThen_ok, List.map_toArray, List.map_cons, List.map_nil, hs, hx, hrun]
  exact hK _ _ h

/-- with: three boxes, and the row so far -/
structure Wt (w : World) (b : Nat) (o0 o1 o2 : Obj) (L : List Op2) (v : Value) (W : World) : Prop where
  bel : Below w.heap.size w W
  x0 : W.heap[b]? = some o0
  x1 : W.heap[b + 1]? = some o1
  x2 : W.heap[b + 2]? = some o2
  nb : ∀ g, v.ownBlock = some g → b + 3 ≤ g
  row : W.ownsRow w.heap.size 31 2 v L.length (oCells L)
theorem Wt.step {w : World} {b : Nat} {o0 o1 o2 : Obj} {L : List Op2} {v : Value} {W W' : World} (h : Wt w b o0 o1 o2 L v W) (hb : Below W.heap.size W W') : Wt w b o0 o1 o2 L v W' :=
  ⟨h.bel.trans (hb.mono h.bel.size), (hb.block _ (Array.getElem?_eq_some_iff.1 h.x0).1).trans h.x0, (hb.block _ (Array.getElem?_eq_some_iff.1 h.x1).1).trans h.x1, (hb.block _ (Array.getElem?_eq_some_iff.1 h.x2).1).trans h.x2, h.nb, oown_below h.row hb⟩
theorem Wt.drew {w : World} {b : Nat} {o0 o1 o2 : Obj} {L : List Op2} {v : Value} {W : World} (h : Wt w b o0 o1 o2 L v W) : Wt w b o0 o1 o2 L v W.drew := ⟨h.bel.drew, h.x0, h.x1, h.x2, h.nb, h.row⟩
theorem Wt.lt {w : World} {b : Nat} {o0 o1 o2 : Obj} {L : List Op2} {v : Value} {W : World} (h : Wt w b o0 o1 o2 L v W) : b + 2 < W.heap.size := (Array.getElem?_eq_some_iff.1 h.x2).1
theorem Wt.alloc {w : World} {b : Nat} {o0 o1 o2 : Obj} {L : List Op2} {v : Value} {W : World} (h : Wt w b o0 o1 o2 L v W) (x : Obj) : Wt w b o0 o1 o2 L v (W.alloc x) := h.step ((Below.refl _ W).alloc (Nat.le_refl _) x)
theorem Wt.grown {w : World} {b : Nat} {o0 o1 o2 : Obj} {L L' : List Op2} {v : Value} {W W' : World} {g n cap : Nat} (h : Wt w b o0 o1 o2 L v W) (hg : W.grownBy W' v.ownBlock) (hat : v.ownBlock = some g ∨ g = W.heap.size) (hr : W'.ownsRow w.heap.size 31 2 (.slice (some ⟨g, 0, none⟩) n cap) L'.length (oCells L')) : Wt w b o0 o1 o2 L' (.slice (some ⟨g, 0, none⟩) n cap) W' := by
  have hlt := h.lt
  have hk : ∀ i, i < b + 3 → W'.heap[i]? = W.heap[i]? := fun i hi => hg.block i (by omega) (fun e => by have := h.nb i e.symm; omega)
  refine ⟨Below.grown h.bel hg h.bel.size (fun g hg' => (oown_at h.row hg').1), (hk b (by omega)).trans h.x0, (hk (b + 1) (by omega)).trans h.x1, (hk (b + 2) (by omega)).trans h.x2, ?_, hr⟩
  intro g' hg'
  simp only [Value.ownBlock, Option.some.injEq] at hg'
  subst hg'
  rcases hat with h1 | h1
  · exact h.nb _ h1
  · omega

def withL (l : List Op2) (n : Int) (vs : List ByteArray) : List Op2 := l.filter (fun o => decide (o.1 < n)) ++ vs.map (fun v => (n, v)) ++ l.filter (fun o => decide (n < o.1))
/-- a message comes, its options in a row of their own -/
def NewO (w : World) (m : Mg) (e : Ending) (w' : World) : Prop := ∃ aa ca, e = .returned (mgV m aa ca) ∧ OptsIn w' aa m.opts ∧ (m.opts = [] ∨ ∃ g o, aa = some ⟨g, o, none⟩ ∧ w.heap.size ≤ g) ∧ Below w.heap.size w w'
theorem orow_form {w : World} {B : Nat} {ao : Option Addr} {n co : Nat} {xs : List Value} (h : w.ownsRow B 31 2 (.slice ao n co) n xs) : (ao = none ∧ n = 0 ∧ co = 0) ∨ (∃ g, ao = some ⟨g, 0, none⟩ ∧ n ≤ co) := by
  rcases h.2 with ⟨hv, h0⟩ | ⟨g, cap, cur, hv, hb, hg, hnc, _⟩
  · injection hv with ha _ hc
    exact .inl ⟨ha, h0, hc⟩
  · injection hv with ha _ hc
    subst hc
    exact .inr ⟨g, ha, hnc⟩
theorem oadd_none (b o i : Nat) : (⟨b, o, none⟩ : Addr).add i = ⟨b, o + i, none⟩ := by unfold Addr.add; split <;> simp_all
theorem orow_news {w : World} {B g n co : Nat} {l : List Op2} (h : w.ownsRow B 31 2 (.slice (some ⟨g, 0, none⟩) n co) n (oCells l)) : ∀ j u, (oCells l)[j]? = some u → w.cell? ((⟨g, 0, none⟩ : Addr).add j) = some u := fun j u hu => by
  rcases h.2 with ⟨hv, h0⟩ | ⟨g', cap, cur, hv, hb, hg, hnc, _, _, htake⟩
  · cases hv
  · injection hv with ha _ _
    injection ha with ha
    injection ha with ha
    subst ha
    rw [← htake, List.getElem?_take] at hu
    split at hu
    · rw [oadd_none, Nat.zero_add, Lib.cell_of_heap hg]
      simpa using hu
    · cases hu
section
variable {ops : Array Oper} {o : Oper} {a : Act} {K : Act → World → Prop} {Q : Exit → Act → World → Prop} {E : Prop} {w W : World} {b : Nat} {o0 o1 o2 : Obj} {L : List Op2} {va : Value}
theorem stepW (hgd : o.guard = none) (x y : Operand) (ho : o.op = .call { callee := .builtin .append, args := #[x, y], argTypes := #[22, 22] })
    (hx : a.eval x = va) (B : Nat) (hy : a.eval y = .slice (some ⟨B, 0, none⟩) 1 1) (hI : Wt w b o0 o1 o2 L va W) (n : Int) (s : ByteArray) (hB : W.heap[B]? = some (.cells #[.int .i64 n, .string s] 31 (0, 0))) (hL : L.length ≤ 100)
    (h : ∀ g cap W', Wt w b o0 o1 o2 (L ++ [(n, s)]) (.slice (some ⟨g, 0, none⟩) (L.length + 1) cap) W' → K (a.put o.dst (.slice (some ⟨g, 0, none⟩) (L.length + 1) cap)) W') :
    if Region.wanted o (yielded ops a.tmps) = true then Oper.wp Tryd.prog o a W K Q else E := by
  obtain ⟨i0, hi, hz0, hz1, hz2⟩ := info_parts (show (Tryd.prog.info? 31).map (fun i => (i.zero, i.size, i.bytes)) = some (some (.agg #[.int .i64 0, .string ⟨#[]⟩]), 2, 24) by kernel_rfl)
  refine step_append_lies W hgd x y 22 ho w.heap.size 31 i0 _ 2 24 Tryd.underlying22 hi hz0 hz1 hz2 rfl (by decide) va L.length _ hx hI.row ⟨B, 0, none⟩ 1 1 [.int .i64 n, .string s] hy rfl (World.news_of_block hB) (by simp [Value.oneCell']) (by decide) (by unfold maxLen; omega) (by omega) hI.bel.size _ rfl ?_
  intro g cap W' hown hgrow hat hlt
  exact h g cap W' (Wt.grown hI hgrow hat (by rw [oCells_append, List.length_append]; exact hown))
end

def set6 (W : World) (b : Nat) (x0 x1 x2 x3 x4 x5 : Value) : World := (((((W.setCell ⟨b, 0, none⟩ x0).setCell ⟨b, 1, none⟩ x1).setCell ⟨b, 2, none⟩ x2).setCell ⟨b, 3, none⟩ x3).setCell ⟨b, 4, none⟩ x4).setCell ⟨b, 5, none⟩ x5
theorem set6_other (W : World) (b : Nat) (x0 x1 x2 x3 x4 x5 : Value) {g : Nat} (h : g ≠ b) : (set6 W b x0 x1 x2 x3 x4 x5).heap[g]? = W.heap[g]? := by
  unfold set6
  rw [Below.heap_setCell _ _ _ _ h, Below.heap_setCell _ _ _ _ h, Below.heap_setCell _ _ _ _ h, Below.heap_setCell _ _ _ _ h, Below.heap_setCell _ _ _ _ h, Below.heap_setCell _ _ _ _ h]
theorem set6_below {w W : World} {N b : Nat} (h : Below N w W) (hb : N ≤ b) (x0 x1 x2 x3 x4 x5 : Value) : Below N w (set6 W b x0 x1 x2 x3 x4 x5) :=
  (((((h.setCell (p := ⟨b, 0, none⟩) hb x0).setCell (p := ⟨b, 1, none⟩) hb x1).setCell (p := ⟨b, 2, none⟩) hb x2).setCell (p := ⟨b, 3, none⟩) hb x3).setCell (p := ⟨b, 4, none⟩) hb x4).setCell (p := ⟨b, 5, none⟩) hb x5

set_option maxHeartbeats 8000000 in
set_option maxRecDepth 100000 in
theorem with_any (m : Mg) (ao : Option Addr) (co : Nat) (n : Int) (vs : List ByteArray) (av : Option Addr) (cv : Nat) (w : World) (hl : OptsIn w ao m.opts) (hv : StrsIn w av vs) (h12 : m.opts.length ≤ 12) (hvl : vs.length ≤ 12)
    (hs : ∀ k ∈ m.opts, k.2.size ≤ 281474976710656) (hvs : ∀ s ∈ vs, s.size ≤ 281474976710656) (ht : m.token.size ≤ 281474976710656) (hp : m.payload.size ≤ 281474976710656) :
    Calls Tryd.prog 29 #[mgV m ao co, .int .i64 n, .slice av vs.length cv] w (NewO w ⟨m.kind, m.code, m.id, m.token, withL m.opts n vs, m.payload⟩) := by
  obtain ⟨i0, hi, hz0, hz1, hz2⟩ := info_parts (show (Tryd.prog.info? 31).map (fun i => (i.zero, i.size, i.bytes)) = some (some (.agg #[.int .i64 0, .string ⟨#[]⟩]), 2, 24) by kernel_rfl)
  obtain ⟨k, c, i, t, l, p⟩ := m
  simp only [mgV] at *
  have C1 : Hid (∀ W, Below w.heap.size w W → W.cell? ⟨w.heap.size + 1, 0, none⟩ = some (.int .i64 n) → w.heap.size + 1 < W.heap.size → Calls Tryd.prog 42 #[.slice ao l.length co, .func (.func 43) #[] #[.pointer (some ⟨w.heap.size + 1, 0, none⟩)]] W (ORow W (l.filter (fun o => decide (o.1 < n))))) := fun W hW hc hz =>
    without_lt (w.heap.size + 1) _ l ao co W (hl.below hW) h12 hs fun k W' hW' => olit_lt k (w.heap.size + 1) n W' ((hW'.cell (p := ⟨w.heap.size + 1, 0, none⟩) hz).trans hc) (Nat.lt_of_lt_of_le hz hW'.size)
  have C2 : Hid (∀ W, Below w.heap.size w W → W.cell? ⟨w.heap.size + 1, 0, none⟩ = some (.int .i64 n) → w.heap.size + 1 < W.heap.size → Calls Tryd.prog 42 #[.slice ao l.length co, .func (.func 45) #[] #[.pointer (some ⟨w.heap.size + 1, 0, none⟩)]] W (ORow W (l.filter (fun o => decide (n < o.1))))) := fun W hW hc hz =>
    without_gt (w.heap.size + 1) _ l ao co W (hl.below hW) h12 hs fun k W' hW' => olit_gt k (w.heap.size + 1) n W' ((hW'.cell (p := ⟨w.heap.size + 1, 0, none⟩) hz).trans hc) (Nat.lt_of_lt_of_le hz hW'.size)
  have CT := hide (fun W => oclone_any t W ht)
  have CP := hide (fun W => oclone_any p W hp)
  have CV : Hid (∀ j (h : j < vs.length) W, Calls Tryd.prog 44 #[.string vs[j]] W fun e w' => e = .returned (.string vs[j]) ∧ Below W.heap.size W w') := fun j h W => oclone_any vs[j] W (hvs _ (List.getElem_mem h))
  have HV := hide hv
  have hA := List.length_filter_le (fun o : Op2 => decide (o.1 < n)) l
  have hG := List.length_filter_le (fun o : Op2 => decide (n < o.1)) l
  have HWL : Hid (withL l n vs = l.filter (fun o => decide (o.1 < n)) ++ vs.map (fun v => (n, v)) ++ l.filter (fun o => decide (n < o.1))) := rfl
  clear hl hs hvs ht hp hv
  generalize withL l n vs = R at *
  generalize l.filter (fun o => decide (o.1 < n)) = LT at *
  generalize l.filter (fun o => decide (n < o.1)) = GT at *
  have HI : Hid (Wt w w.heap.size (.cells #[.int .i64 k, .int .i64 c, .int .i64 i, .string t, .slice ao l.length co, .string p] 24 (0, 0)) (.cells #[.int .i64 n] 3 (0, 0)) (.cells #[.int .i64 0, .int .i64 0, .int .i64 0, .string ⟨#[]⟩, .slice none 0 0, .string ⟨#[]⟩] 24 (0, 0)) [] (.slice none 0 0)
      (((w.alloc (.cells #[.int .i64 k, .int .i64 c, .int .i64 i, .string t, .slice ao l.length co, .string p] 24)).alloc (.cells #[.int .i64 n] 3)).alloc (.cells #[.int .i64 0, .int .i64 0, .int .i64 0, .string ⟨#[]⟩, .slice none 0 0, .string ⟨#[]⟩] 24))) := by
    refine ⟨(((Below.refl w.heap.size w).alloc (Nat.le_refl _) _).alloc (by simp) _).alloc (by simp; omega) _, ?_, ?_, ?_, by simp [Value.ownBlock], World.ownsRow_nil _ _ _ _⟩
    · rw [Below.heap_alloc _ _ _ (by simp; omega), Below.heap_alloc _ _ _ (by simp)]; exact Go.heap_alloc_new w _
    · rw [Below.heap_alloc _ _ _ (by simp)]; exact oblk1 (by simp)
    · exact oblk1 (by simp)
  go_enter Tryd.func29, Tryd.ntmps29
  go_upto_region 1 with fail
  revert HI
  generalize ((w.alloc (.cells #[.int .i64 k, .int .i64 c, .int .i64 i, .string t, .slice ao l.length co, .string p] 24)).alloc (.cells #[.int .i64 n] 3)).alloc (.cells #[.int .i64 0, .int .i64 0, .int .i64 0, .string ⟨#[]⟩, .slice none 0 0, .string ⟨#[]⟩] 24) = W0
  intro HI
  have z4 : W0.cell? ⟨w.heap.size, 4, none⟩ = some (.slice ao l.length co) := Lib.cell_of_heap HI.out.x0 4
  have y0 : W0.cell? ⟨w.heap.size + 1, 0, none⟩ = some (.int .i64 n) := Lib.cell_of_heap HI.out.x1 0
  go_wp2_with fail
  refine (C1.out _ HI.out.bel y0 (by have := HI.out.lt; omega)).mono ?_
  intro e w1 h1
  obtain ⟨v1, rfl, hown1, hb1⟩ := h1
  obtain ⟨a1, c1, rfl⟩ := oown_form hown1
  have HI1 : Hid (Wt w w.heap.size (.cells #[.int .i64 k, .int .i64 c, .int .i64 i, .string t, .slice ao l.length co, .string p] 24 (0, 0)) (.cells #[.int .i64 n] 3 (0, 0)) (.cells #[.int .i64 0, .int .i64 0, .int .i64 0, .string ⟨#[]⟩, .slice none 0 0, .string ⟨#[]⟩] 24 (0, 0)) LT (.slice a1 LT.length c1) w1) :=
    ⟨(HI.out.step hb1).bel, (HI.out.step hb1).x0, (HI.out.step hb1).x1, (HI.out.step hb1).x2, fun g hg => by have := (oown_at hown1 hg).1; have := HI.out.lt; omega, oown_mono hown1 HI.out.bel.size⟩
  clear hown1 hb1 HI z4 y0 C1
  go_wp2_with fail
  go_loopw [7, 16] (fun x q wr => ∃ (j : Nat) (aa : Option Addr) (ca : Nat), j ≤ vs.length ∧ q = .int .i64 j ∧ x = .slice aa (LT ++ (vs.take j).map (fun v => (n, v))).length ca ∧ Hid (Wt w w.heap.size (.cells #[.int .i64 k, .int .i64 c, .int .i64 i, .string t, .slice ao l.length co, .string p] 24 (0, 0)) (.cells #[.int .i64 n] 3 (0, 0)) (.cells #[.int .i64 0, .int .i64 0, .int .i64 0, .string ⟨#[]⟩, .slice none 0 0, .string ⟨#[]⟩] 24 (0, 0)) (LT ++ (vs.take j).map (fun v => (n, v))) (.slice aa (LT ++ (vs.take j).map (fun v => (n, v))).length ca) wr)) (fun _ q _ => vs.length - (intOf q).toNat)
  case atStart => exact ⟨0, a1, c1, by omega, rfl, by simp, by rw [show LT ++ (vs.take 0).map (fun v => (n, v)) = LT by simp]; exact HI1.out⟩
  case round =>
    obtain ⟨j, aa, ca, hj, rfl, rfl, HR⟩ := hrel
    clear HI1
    by_cases hlt : j < vs.length
    · obtain ⟨bs, os, rfl, hbs, hcs⟩ := strs_here HV.out hlt
      have hv1 := (HR.out.bel.cell (p := ⟨bs, _, none⟩) hbs).trans (hcs j hlt)
      have HSN : Hid (LT ++ (vs.take (j + 1)).map (fun v => (n, v)) = (LT ++ (vs.take j).map (fun v => (n, v))) ++ [(n, vs[j])]) := by
        show _ = _
        rw [List.take_succ_eq_append_getElem hlt, List.map_append, ← List.append_assoc]
        rfl
      have C := hide (CV.out j hlt)
      have hle : (LT ++ (vs.take j).map (fun v => (n, v))).length ≤ 100 := by
        rw [List.length_append, List.length_map, List.length_take]
        omega
      clear hcs CV
      generalize vs[j] = s at *
      generalize LT ++ (vs.take j).map (fun v => (n, v)) = X at *
      have q0 : wr.cell? ⟨w.heap.size + 1, 0, none⟩ = some (.int .i64 n) := Lib.cell_of_heap HR.out.x1 0
      have hltb := HR.out.lt
      have hne : w.heap.size + 1 ≠ wr.heap.size := by omega
      have HL100 := hide hle
      go_wp2_with fail
      go_region_held3 (fun w' => w'.cell? ⟨w.heap.size + 1, 0, none⟩ = some (.int .i64 n)) (go_keep)
        (first
          | (go_at_call 44; refine (C.out _).mono ?_; rintro e wa ⟨rfl, hba⟩; have IA := HR.out.drew.step hba; have j0 : wa.cell? ⟨w.heap.size + 1, 0, none⟩ = some (.int .i64 n) := Lib.cell_of_heap IA.x1 0; have hlta := IA.lt; have hnea : w.heap.size + 1 ≠ wa.heap.size := (by omega))
          | (refine stepW (w := w) (b := w.heap.size) (o0 := (.cells #[.int .i64 k, .int .i64 c, .int .i64 i, .string t, .slice ao l.length co, .string p] 24 (0, 0))) (o1 := (.cells #[.int .i64 n] 3 (0, 0))) (o2 := (.cells #[.int .i64 0, .int .i64 0, .int .i64 0, .string ⟨#[]⟩, .slice none 0 0, .string ⟨#[]⟩] 24 (0, 0))) (L := X) (by rfl) _ _ (by rfl) (by rfl) _ (by rfl) (IA.alloc _) n s (oblk1 rfl) HL100.out ?_; intro g cap wz IZ; have k0 : wz.cell? ⟨w.heap.size + 1, 0, none⟩ = some (.int .i64 n) := Lib.cell_of_heap IZ.x1 0)
          | fail)
      all_goals
        have HIZ := hide IZ
        clear IZ IA
        go_wp2
        go_round
        case rel => exact ⟨j + 1, some ⟨g, 0, none⟩, cap, by omega, by go_num, by rw [HSN.out, List.length_append]; rfl, by rw [HSN.out, List.length_append]; exact HIZ.out⟩
        case measure => simp [intOf]; omega
    · have hke : vs.take j = vs := List.take_of_length_le (by omega)
      rw [hke] at HR ⊢
      have hXl : (LT ++ vs.map (fun v => (n, v))).length ≤ 24 := by
        rw [List.length_append, List.length_map]
        omega
      clear hke CV
      generalize LT ++ vs.map (fun v => (n, v)) = X at *
      have HPX : Hid (R = X ++ GT) := HWL.out
      clear HWL
      have y0 : wr.cell? ⟨w.heap.size + 1, 0, none⟩ = some (.int .i64 n) := Lib.cell_of_heap HR.out.x1 0
      have z4 : wr.cell? ⟨w.heap.size, 4, none⟩ = some (.slice ao l.length co) := Lib.cell_of_heap HR.out.x0 4
      go_upto_region 7 with fail
      go_cut [7] (fun x wq => ∃ (ab : Option Addr) (cb : Nat), x = .slice ab R.length cb ∧ Hid (Wt w w.heap.size (.cells #[.int .i64 k, .int .i64 c, .int .i64 i, .string t, .slice ao l.length co, .string p] 24 (0, 0)) (.cells #[.int .i64 n] 3 (0, 0)) (.cells #[.int .i64 0, .int .i64 0, .int .i64 0, .string ⟨#[]⟩, .slice none 0 0, .string ⟨#[]⟩] 24 (0, 0)) R (.slice ab R.length cb) wq))
      case first =>
        go_wp2_with fail
        refine (C2.out _ HR.out.bel y0 (by have := HR.out.lt; omega)).mono ?_
        intro e w2 h2
        obtain ⟨v2, rfl, hown2, hb2⟩ := h2
        obtain ⟨a2, c2, rfl⟩ := oown_form hown2
        have HI2 := hide (HR.out.step hb2)
        have HG2 := hide hown2
        have hs2 := HI2.out.bel.size
        clear hown2 hb2 HR C2 y0 z4
        by_cases hG0 : GT = []
        · have HPX : Hid (R = X) := by have := HPX.out; rw [hG0, List.append_nil] at this; exact this
          have hgl : GT.length = 0 := by rw [hG0]; rfl
          rw [hgl]
          have HRUN := hide (oappend_zero w2 aa X.length ca (orow_form HI2.out.row) a2 c2)
          clear hG0 HG2 hgl
          go_wp2_with (at_builtin; refine owpList_none rfl _ _ 22 rfl _ _ rfl rfl HRUN.out ?_)
          go_meet
          case rel => exact ⟨aa, ca, by rw [HPX.out], by rw [HPX.out]; exact HI2.out⟩
        · have hgp : 0 < GT.length := List.length_pos_iff.2 hG0
          obtain ⟨g3, rfl⟩ : ∃ g3, a2 = some ⟨g3, 0, none⟩ := by
            rcases orow_form HG2.out with ⟨_, h, _⟩ | ⟨g, h, _⟩
            · omega
            · exact ⟨g, h⟩
          have HNW := hide (orow_news HG2.out)
          clear hG0 HG2
          go_wp2_with (at_builtin; refine wpList_append_lies _ rfl _ _ 22 rfl w.heap.size 31 i0 _ 2 24 Tryd.underlying22 hi hz0 hz1 hz2 rfl (by decide) _ _ _ rfl HI2.out.row ⟨g3, 0, none⟩ GT.length c2 (oCells GT) rfl (oCells_len GT) HNW.out (oCells_one GT) hgp (by unfold maxLen; omega) (by omega) (by omega) _ rfl ?_)
          intro g cap w5 hown hgrow hat hg
          have HX5 : Hid (Wt w w.heap.size (.cells #[.int .i64 k, .int .i64 c, .int .i64 i, .string t, .slice ao l.length co, .string p] 24 (0, 0)) (.cells #[.int .i64 n] 3 (0, 0)) (.cells #[.int .i64 0, .int .i64 0, .int .i64 0, .string ⟨#[]⟩, .slice none 0 0, .string ⟨#[]⟩] 24 (0, 0)) R (.slice (some ⟨g, 0, none⟩) (X.length + GT.length) cap) w5) := by
            rw [HPX.out]
            exact Wt.grown HI2.out hgrow hat (by rw [oCells_append, List.length_append]; exact hown)
          clear hown hgrow hat hg HNW HI2
          go_wp2_with fail
          go_meet
          case rel => exact ⟨some ⟨g, 0, none⟩, cap, by rw [HPX.out, List.length_append], by have := HX5.out; rwa [show X.length + GT.length = R.length by rw [HPX.out, List.length_append]] at this⟩
      case rest =>
        obtain ⟨ab, cb, rfl, HC⟩ := hcut
        clear HR C2 y0 z4 HPX
        have q0 : wc.cell? ⟨w.heap.size, 0, none⟩ = some (.int .i64 k) := Lib.cell_of_heap HC.out.x0 0
        have q1 : wc.cell? ⟨w.heap.size, 1, none⟩ = some (.int .i64 c) := Lib.cell_of_heap HC.out.x0 1
        have q2 : wc.cell? ⟨w.heap.size, 2, none⟩ = some (.int .i64 i) := Lib.cell_of_heap HC.out.x0 2
        have q3 : wc.cell? ⟨w.heap.size, 3, none⟩ = some (.string t) := Lib.cell_of_heap HC.out.x0 3
        have q5 : wc.cell? ⟨w.heap.size, 5, none⟩ = some (.string p) := Lib.cell_of_heap HC.out.x0 5
        have hne : w.heap.size ≠ w.heap.size + 1 + 1 := by omega
        go_wp2_with fail
        go_region_held3 (fun w' => w'.cell? ⟨w.heap.size, 0, none⟩ = some (.int .i64 k) ∧ w'.cell? ⟨w.heap.size, 1, none⟩ = some (.int .i64 c) ∧ w'.cell? ⟨w.heap.size, 2, none⟩ = some (.int .i64 i) ∧ w'.cell? ⟨w.heap.size, 3, none⟩ = some (.string t) ∧ w'.cell? ⟨w.heap.size, 5, none⟩ = some (.string p)) (first
            | go_keep
            | (go_split_ands; refine ⟨?_, ?_, ?_, ?_, ?_⟩ <;> (rw [World.cell?_setCell_other _ _ _ _ (by simp), World.cell?_setCell_other _ _ _ _ (by simp), World.cell?_setCell_other _ _ _ _ (by simp), World.cell?_setCell_other _ _ _ _ (by simp), World.cell?_setCell_other _ _ _ _ (by simp), World.cell?_setCell_other _ _ _ _ (by simp)]; assumption)))
          (first
            | (go_at_call 44; refine (CT.out _).mono ?_; rintro e wa ⟨rfl, hba⟩; have IA := HC.out.drew.step hba; have j0 : wa.cell? ⟨w.heap.size, 0, none⟩ = some (.int .i64 k) := Lib.cell_of_heap IA.x0 0; have j1 : wa.cell? ⟨w.heap.size, 1, none⟩ = some (.int .i64 c) := Lib.cell_of_heap IA.x0 1; have j2 : wa.cell? ⟨w.heap.size, 2, none⟩ = some (.int .i64 i) := Lib.cell_of_heap IA.x0 2; have j3 : wa.cell? ⟨w.heap.size, 3, none⟩ = some (.string t) := Lib.cell_of_heap IA.x0 3; have j5 : wa.cell? ⟨w.heap.size, 5, none⟩ = some (.string p) := Lib.cell_of_heap IA.x0 5)
            | (go_at_call 44; refine (CP.out _).mono ?_; rintro e wb ⟨rfl, hbb⟩; have IB := IA.step hbb; have i0' : wb.cell? ⟨w.heap.size, 0, none⟩ = some (.int .i64 k) := Lib.cell_of_heap IB.x0 0; have i1' : wb.cell? ⟨w.heap.size, 1, none⟩ = some (.int .i64 c) := Lib.cell_of_heap IB.x0 1; have i2' : wb.cell? ⟨w.heap.size, 2, none⟩ = some (.int .i64 i) := Lib.cell_of_heap IB.x0 2; have i3' : wb.cell? ⟨w.heap.size, 3, none⟩ = some (.string t) := Lib.cell_of_heap IB.x0 3; have i5' : wb.cell? ⟨w.heap.size, 5, none⟩ = some (.string p) := Lib.cell_of_heap IB.x0 5; have iz : ∀ q, wb.cell? ⟨w.heap.size + 1 + 1, q, none⟩ = (#[.int .i64 0, .int .i64 0, .int .i64 0, .string ⟨#[]⟩, .slice none 0 0, .string ⟨#[]⟩] : Array Value)[q]? := (fun q => Lib.cell_of_heap IB.x2 q); have izf : ∀ q, wb.frozen? ⟨w.heap.size + 1 + 1, q, none⟩ = false := (fun q => Lib.frozen_of_heap IB.x2 q))
            | fail)
        all_goals
          have HO : Hid (OptsIn (set6 wb (w.heap.size + 1 + 1) (.int .i64 k) (.int .i64 c) (.int .i64 i) (.string t) (.slice ab R.length cb) (.string p)) ab R) := own_ops (oown_kept IB.row fun g hg => set6_other _ _ _ _ _ _ _ _ (by have := IB.nb g hg; omega)) rfl
          have HFR : Hid (R = [] ∨ ∃ g o, ab = some ⟨g, o, none⟩ ∧ w.heap.size ≤ g) := by
            rcases orow_form IB.row with ⟨_, h, _⟩ | ⟨g, h, _⟩
            · exact .inl (List.length_eq_zero_iff.1 h)
            · exact .inr ⟨g, 0, h, by have := IB.nb g (by rw [h]; rfl); omega⟩
          have HBE := hide (set6_below IB.bel (show w.heap.size ≤ w.heap.size + 1 + 1 by omega) (.int .i64 k) (.int .i64 c) (.int .i64 i) (.string t) (.slice ab R.length cb) (.string p))
          go_wp2
          exact bodyPost_ret (v := .agg #[.int .i64 k, .int .i64 c, .int .i64 i, .string t, .slice ab R.length cb, .string p]) (by simp [results, Tryd.results29, go_sem, World.cell?_setCell_same, iz]) rfl ⟨ab, cb, rfl, HO.out, HFR.out, HBE.out⟩
end Go.Proofs.YtgmjdelgocbcaacDoor
