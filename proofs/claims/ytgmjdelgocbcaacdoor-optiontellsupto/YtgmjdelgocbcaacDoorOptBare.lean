/-
  dragomanlaw.bare: a message without its options of a number.
-/
import Derived.Test.YtgmjdelgocbcaacDoorOptMath
import Derived.Deep.RegionLaw
namespace Go.Proofs.YtgmjdelgocbcaacDoor
open Go.RowKit Go.PlainAid

def bareL (l : List Op2) (n : Int) : List Op2 := l.filter (fun o => !decide (o.1 = n))
def bareG (m : Mg) (n : Int) : Mg := ⟨m.kind, m.code, m.id, m.token, bareL m.opts n, m.payload⟩
/-- three boxes stay, a row of its own grows -/
structure Br (w : World) (o0 o1 o2 : Obj) (L : List Op2) (v : Value) (W : World) : Prop where
  bel : Below w.heap.size w W
  x0 : W.heap[w.heap.size]? = some o0
  x1 : W.heap[w.heap.size + 1]? = some o1
  x2 : W.heap[w.heap.size + 1 + 1]? = some o2
  row : W.ownsRow (w.heap.size + 1 + 1 + 1) 31 2 v L.length (oCells L)
theorem Br.step {w : World} {o0 o1 o2 : Obj} {L : List Op2} {v : Value} {W W' : World} (h : Br w o0 o1 o2 L v W) (hb : Below W.heap.size W W') : Br w o0 o1 o2 L v W' :=
  ⟨h.bel.trans (hb.mono h.bel.size), (hb.block _ (Array.getElem?_eq_some_iff.1 h.x0).1).trans h.x0, (hb.block _ (Array.getElem?_eq_some_iff.1 h.x1).1).trans h.x1, (hb.block _ (Array.getElem?_eq_some_iff.1 h.x2).1).trans h.x2, oown_below h.row hb⟩
theorem Br.drew {w : World} {o0 o1 o2 : Obj} {L : List Op2} {v : Value} {W : World} (h : Br w o0 o1 o2 L v W) : Br w o0 o1 o2 L v W.drew := ⟨h.bel.drew, h.x0, h.x1, h.x2, h.row⟩
theorem Br.lt {w : World} {o0 o1 o2 : Obj} {L : List Op2} {v : Value} {W : World} (h : Br w o0 o1 o2 L v W) : w.heap.size + 1 + 1 < W.heap.size := (Array.getElem?_eq_some_iff.1 h.x2).1
theorem Br.alloc {w : World} {o0 o1 o2 : Obj} {L : List Op2} {v : Value} {W : World} (h : Br w o0 o1 o2 L v W) (x : Obj) : Br w o0 o1 o2 L v (W.alloc x) := h.step ((Below.refl _ W).alloc (Nat.le_refl _) x)
theorem Br.set {w : World} {o0 o1 : Obj} {L : List Op2} {v u y0 y1 y2 y3 y5 : Value} {t : TypeId} {W : World} (h : Br w o0 o1 (.cells #[y0, y1, y2, y3, u, y5] t (0, 0)) L v W) : Br w o0 o1 (.cells #[y0, y1, y2, y3, v, y5] t (0, 0)) L v (W.setCell ⟨w.heap.size + 1 + 1, 4, none⟩ v) := by
  have hx2 := h.x2
  refine ⟨h.bel.setCell (by show _ ≤ w.heap.size + 1 + 1; omega) _, ?_, ?_, ?_, ?_⟩
  · rw [Below.heap_setCell _ _ _ _ (by show w.heap.size ≠ w.heap.size + 1 + 1; omega)]; exact h.x0
  · rw [Below.heap_setCell _ _ _ _ (by show w.heap.size + 1 ≠ w.heap.size + 1 + 1; omega)]; exact h.x1
  · simp [World.setCell, Array.getElem?_modify, hx2]
  · exact oown_kept h.row fun g hg => Below.heap_setCell _ _ _ _ (by show g ≠ w.heap.size + 1 + 1; have := (oown_at h.row hg).1; omega)
section
variable {ops : Array Oper} {o : Oper} {a : Act} {K : Act → World → Prop} {Q : Exit → Act → World → Prop} {E : Prop} {w W : World} {o0 o1 o2 : Obj} {L : List Op2} {va : Value}
theorem stepBr (hgd : o.guard = none) (x y : Operand) (ho : o.op = .call { callee := .builtin .append, args := #[x, y], argTypes := #[22, 22] })
    (hx : a.eval x = va) (B : Nat) (hy : a.eval y = .slice (some ⟨B, 0, none⟩) 1 1) (hI : Br w o0 o1 o2 L va W) (n : Int) (s : ByteArray) (hB : W.heap[B]? = some (.cells #[.int .i64 n, .string s] 31 (0, 0))) (hL : L.length ≤ 100)
    (h : ∀ g cap W', Br w o0 o1 o2 (L ++ [(n, s)]) (.slice (some ⟨g, 0, none⟩) (L.length + 1) cap) W' → K (a.put o.dst (.slice (some ⟨g, 0, none⟩) (L.length + 1) cap)) W') :
    if Region.wanted o (yielded ops a.tmps) = true then Oper.wp Tryd.prog o a W K Q else E := by
  obtain ⟨i0, hi, hz0, hz1, hz2⟩ := info_parts (show (Tryd.prog.info? 31).map (fun i => (i.zero, i.size, i.bytes)) = some (some (.agg #[.int .i64 0, .string ⟨#[]⟩]), 2, 24) by kernel_rfl)
  refine step_append_lies W hgd x y 22 ho (w.heap.size + 1 + 1 + 1) 31 i0 _ 2 24 Tryd.underlying22 hi hz0 hz1 hz2 rfl (by decide) va L.length _ hx hI.row ⟨B, 0, none⟩ 1 1 [.int .i64 n, .string s] hy rfl (World.news_of_block hB) (by simp [Value.oneCell']) (by decide) (by unfold maxLen; omega) (by omega) hI.lt _ rfl ?_
  intro g cap W' hown hgrow hat hlt
  have hne : ∀ k, k ≤ w.heap.size + 1 + 1 → some k ≠ va.ownBlock := fun k hk e => by have := (oown_at hI.row e.symm).1; omega
  have hlt' := hI.lt
  exact h g cap W' ⟨Below.grown hI.bel hgrow hI.bel.size (fun g hg' => by have := (oown_at hI.row hg').1; omega), by rw [hgrow.block _ (by omega) (hne _ (by omega))]; exact hI.x0, by rw [hgrow.block _ (by omega) (hne _ (by omega))]; exact hI.x1, by rw [hgrow.block _ (by omega) (hne _ (by omega))]; exact hI.x2, by rw [oCells_append, List.length_append]; exact hown⟩
end

set_option maxHeartbeats 8000000 in
set_option maxRecDepth 100000 in
theorem bare_any (m : Mg) (ao : Option Addr) (co : Nat) (n : Int) (w : World) (hl : OptsIn w ao m.opts) (h12 : m.opts.length ≤ 12) :
    Calls Tryd.prog 25 #[mgV m ao co, .int .i64 n] w (NewO w (bareG m n)) := by
  have HL := hide hl
  clear hl
  have HF : Hid (∀ k (h : k < m.opts.length), bareL (m.opts.take (k + 1)) n = bareL (m.opts.take k) n ++ (if (!decide (m.opts[k].1 = n)) = true then [m.opts[k]] else [])) := fun k h => ofilter_snoc _ _ k h
  obtain ⟨k, c, i, t, l, p⟩ := m
  simp only [mgV, bareG] at *
  have HI0 : Hid (Br w (.cells #[.int .i64 k, .int .i64 c, .int .i64 i, .string t, .slice ao l.length co, .string p] 24 (0, 0)) (.cells #[.int .i64 0, .int .i64 0, .int .i64 0, .string ⟨#[]⟩, .slice none 0 0, .string ⟨#[]⟩] 24 (0, 0)) (.cells #[.int .i64 k, .int .i64 c, .int .i64 i, .string t, .slice none 0 0, .string p] 24 (0, 0)) [] (.slice none 0 0)
      (((w.alloc (.cells #[.int .i64 k, .int .i64 c, .int .i64 i, .string t, .slice ao l.length co, .string p] 24)).alloc (.cells #[.int .i64 0, .int .i64 0, .int .i64 0, .string ⟨#[]⟩, .slice none 0 0, .string ⟨#[]⟩] 24)).alloc (.cells #[.int .i64 k, .int .i64 c, .int .i64 i, .string t, .slice none 0 0, .string p] 24))) := by
    refine ⟨(((Below.refl _ _).alloc (Nat.le_refl _) _).alloc (by simp) _).alloc (by simp; omega) _, ?_, ?_, oblk1 (by simp), World.ownsRow_nil _ _ _ _⟩
    · rw [Below.heap_alloc _ _ _ (by simp; omega), Below.heap_alloc _ _ _ (by simp)]; exact Go.heap_alloc_new w _
    · rw [Below.heap_alloc _ _ _ (by simp)]; exact oblk1 (by simp)
  go_enter Tryd.func25, Tryd.ntmps25
  go_upto_region 3 with fail
  revert HI0
  generalize ((w.alloc (.cells #[.int .i64 k, .int .i64 c, .int .i64 i, .string t, .slice ao l.length co, .string p] 24)).alloc (.cells #[.int .i64 0, .int .i64 0, .int .i64 0, .string ⟨#[]⟩, .slice none 0 0, .string ⟨#[]⟩] 24)).alloc (.cells #[.int .i64 k, .int .i64 c, .int .i64 i, .string t, .slice none 0 0, .string p] 24) = W0
  intro HI0
  go_wp2_with fail
  go_loopw [6] (fun x wr => ∃ (j : Nat) (aa : Option Addr) (ca : Nat), j ≤ l.length ∧ x = .int .i64 j ∧ Hid (Br w (.cells #[.int .i64 k, .int .i64 c, .int .i64 i, .string t, .slice ao l.length co, .string p] 24 (0, 0)) (.cells #[.int .i64 0, .int .i64 0, .int .i64 0, .string ⟨#[]⟩, .slice none 0 0, .string ⟨#[]⟩] 24 (0, 0)) (.cells #[.int .i64 k, .int .i64 c, .int .i64 i, .string t, .slice aa (bareL (l.take j) n).length ca, .string p] 24 (0, 0)) (bareL (l.take j) n) (.slice aa (bareL (l.take j) n).length ca) wr)) (fun x _ => l.length - (intOf x).toNat)
  case atStart => exact ⟨0, none, 0, by omega, rfl, HI0⟩
  case round =>
    obtain ⟨j, aa, ca, hj, rfl, HR⟩ := hrel
    have z4 : wr.cell? ⟨w.heap.size, 4, none⟩ = some (.slice ao l.length co) := Lib.cell_of_heap HR.out.x0 4
    by_cases hlt : j < l.length
    · have hlt' : (j : Int) < l.length := by omega
      obtain ⟨b, o, rfl, hb, hcell⟩ := opts_here HL.out hlt
      have hk1 : wr.cell? ⟨b, o + j * 2, none⟩ = some (.int .i64 l[j].1) := by rw [HR.out.bel.cell (p := ⟨b, _, none⟩) hb]; exact (hcell j hlt).1
      have hk2 : wr.cell? ⟨b, o + j * 2 + 1, none⟩ = some (.string l[j].2) := by rw [HR.out.bel.cell (p := ⟨b, _, none⟩) hb]; exact (hcell j hlt).2
      have HSN := hide (HF.out j hlt)
      have hle : (bareL (l.take j) n).length ≤ 12 := Nat.le_trans (List.length_filter_le _ _) (by rw [List.length_take]; omega)
      clear hcell HF
      generalize l[j] = x at *
      obtain ⟨y1, y2⟩ := x
      simp only at hk1 hk2 HSN
      generalize bareL (l.take j) n = X at *
      have v4 : wr.cell? ⟨w.heap.size + 1 + 1, 4, none⟩ = some (.slice aa X.length ca) := Lib.cell_of_heap HR.out.x2 4
      have hltr := HR.out.lt
      have hne1 : w.heap.size ≠ wr.heap.size := by omega
      have hne2 : w.heap.size + 1 + 1 ≠ wr.heap.size := by omega
      have hne3 : b ≠ wr.heap.size := by omega
      have hnb : b ≠ w.heap.size + 1 + 1 := by omega
      by_cases hyn : y1 = n
      · have HQ : Hid (bareL (l.take (j + 1)) n = X) := by have := HSN.out; rw [if_neg (by simp [hyn]), List.append_nil] at this; exact this
        have hyn' : (y1 != n) = false := by simp [hyn]
        clear HSN
        go_wp2
        go_roundw
        case rel => exact ⟨j + 1, aa, ca, by omega, by go_num, by rw [HQ.out]; exact HR.out⟩
        case measure => simp [intOf]; omega
      · have HQ : Hid (bareL (l.take (j + 1)) n = X ++ [(y1, y2)]) := by have := HSN.out; rw [if_pos (by simp [hyn])] at this; exact this
        have hyn' : (y1 != n) = true := by simp [hyn]
        have HL100 : Hid (X.length ≤ 100) := by show _ ≤ _; omega
        clear HSN
        go_upto_region 7 with fail
        go_region_law (first
            | (refine stepBr (w := w) (L := X) (by rfl) _ _ (by rfl) (by rfl) _ (by rfl) (HR.out.drew.alloc _) y1 y2 (oblk1 rfl) HL100.out ?_; intro g cap wz IZ; have izf : wz.frozen? ⟨w.heap.size + 1 + 1, 4, none⟩ = false := Lib.frozen_of_heap IZ.x2 4; have izc : wz.cell? ⟨w.heap.size + 1 + 1, 4, none⟩ = some (.slice aa X.length ca) := Lib.cell_of_heap IZ.x2 4)
            | fail)
        all_goals
          have HIZ := hide IZ.set
          go_wp2
          go_roundw
          case rel => exact ⟨j + 1, some ⟨g, 0, none⟩, cap, by omega, by go_num, by rw [HQ.out, List.length_append]; exact HIZ.out⟩
          case measure => simp [intOf]; omega
    · have hge : (l.length : Int) ≤ j := by omega
      have hke : l.take j = l := List.take_of_length_le (by omega)
      rw [hke] at HR
      clear hlt HF hke
      generalize bareL l n = X at *
      have q0 : ∀ o, wr.cell? ⟨w.heap.size + 1 + 1, o, none⟩ = (#[.int .i64 k, .int .i64 c, .int .i64 i, .string t, .slice aa X.length ca, .string p] : Array Value)[o]? := fun o => Lib.cell_of_heap HR.out.x2 o
      have q1 : ∀ o, wr.cell? ⟨w.heap.size + 1, o, none⟩ = (#[.int .i64 0, .int .i64 0, .int .i64 0, .string ⟨#[]⟩, .slice none 0 0, .string ⟨#[]⟩] : Array Value)[o]? := fun o => Lib.cell_of_heap HR.out.x1 o
      have f1 : ∀ o, wr.frozen? ⟨w.heap.size + 1, o, none⟩ = false := fun o => Lib.frozen_of_heap HR.out.x1 o
      have HO : Hid (OptsIn (set6 wr (w.heap.size + 1) (.int .i64 k) (.int .i64 c) (.int .i64 i) (.string t) (.slice aa X.length ca) (.string p)) aa X) := own_ops (oown_kept HR.out.row fun g hg => set6_other _ _ _ _ _ _ _ _ (by have := (oown_at HR.out.row hg).1; omega)) rfl
      have HFR : Hid (X = [] ∨ ∃ g o, aa = some ⟨g, o, none⟩ ∧ w.heap.size ≤ g) := by
        rcases orow_form HR.out.row with ⟨_, h, _⟩ | ⟨g, h, _⟩
        · exact .inl (List.length_eq_zero_iff.1 h)
        · exact .inr ⟨g, 0, h, by have := (oown_at HR.out.row (g := g) (by rw [h]; rfl)).1; omega⟩
      have HBE := hide (set6_below HR.out.bel (show w.heap.size ≤ w.heap.size + 1 by omega) (.int .i64 k) (.int .i64 c) (.int .i64 i) (.string t) (.slice aa X.length ca) (.string p))
      go_wp2
      exact bodyPost_ret (v := .agg #[.int .i64 k, .int .i64 c, .int .i64 i, .string t, .slice aa X.length ca, .string p]) (by simp [results, Tryd.results25, go_sem, World.cell?_setCell_same, q1]) rfl ⟨aa, ca, rfl, HO.out, HFR.out, HBE.out⟩
end Go.Proofs.YtgmjdelgocbcaacDoor
