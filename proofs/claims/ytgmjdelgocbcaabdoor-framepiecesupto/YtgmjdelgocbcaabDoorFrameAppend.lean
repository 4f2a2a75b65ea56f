/-
  A stream in three pieces (its maths); rows of packets behind rows of packets.
-/
import Derived.Test.YtgmjdelgocbcaabDoorFrameBegun
namespace Go.Proofs.YtgmjdelgocbcaabDoor
open Go.RowKit Go.PlainAid

/-- a stream in three pieces -/
theorem fd_three (s1 s2 s3 : ByteArray) :
    ((fd s1).2.2 ≠ 0 → fd (s1 ++ s2 ++ s3) = fd s1) ∧
    ((fd s1).2.2 = 0 → (fd ((fd s1).2.1 ++ s2)).2.2 ≠ 0 → fd (s1 ++ s2 ++ s3) = ((fd s1).1 ++ (fd ((fd s1).2.1 ++ s2)).1, (fd ((fd s1).2.1 ++ s2)).2)) ∧
    ((fd s1).2.2 = 0 → (fd ((fd s1).2.1 ++ s2)).2.2 = 0 → fd (s1 ++ s2 ++ s3) = ((fd s1).1 ++ (fd ((fd s1).2.1 ++ s2)).1 ++ (fd ((fd ((fd s1).2.1 ++ s2)).2.1 ++ s3)).1, (fd ((fd ((fd s1).2.1 ++ s2)).2.1 ++ s3)).2)) := by
  refine ⟨fun h => ?_, fun h h2 => ?_, fun h h2 => ?_⟩
  · rw [ByteArray.append_assoc]; exact fd_err _ s1 (s2 ++ s3) (Nat.le_refl _) h
  · have e := fd_more _ s1 s2 (Nat.le_refl _) h
    rw [fd_err _ (s1 ++ s2) s3 (Nat.le_refl _) (by rw [e]; exact h2), e]
  · have e := fd_more _ s1 s2 (Nat.le_refl _) h
    rw [fd_more _ (s1 ++ s2) s3 (Nat.le_refl _) (by rw [e]; exact h2), e]
theorem three_cuts (s : ByteArray) (c m : Nat) (h : c + m ≤ s.size) : s = s.extract 0 c ++ s.extract c (c + m) ++ s.extract (c + m) s.size := by
  apply ByteArray.ext; apply Array.toList_inj.1
  have e : s.data.toList.length = s.size := by simp
  simp only [ByteArray.data_extract, Array.toList_extract, List.extract_eq_take_drop, ByteArray.data_append, Array.toList_append, List.drop_zero, Nat.sub_zero]
  rw [show c + m - c = m by omega, List.take_of_length_le (l := List.drop (c + m) s.data.toList) (by rw [List.length_drop]; omega)]
  rw [List.append_assoc, ← List.drop_drop, List.take_append_drop, List.take_append_drop]

theorem pappend_zero (W : World) (av : Option Addr) (n cv : Nat) (hv : (av = none ∧ n = 0 ∧ cv = 0) ∨ (∃ g, av = some ⟨g, 0, none⟩ ∧ n ≤ cv)) (ao : Option Addr) (co : Nat) :
    (Builtin.append_ #[36, 36] 36 #[.slice av n cv, .slice ao 0 co]).run Tryd.prog W = .ok (.slice av n cv) W := by
  obtain ⟨i0, hi, hz0, hz1, hz2⟩ := pinfo
  rcases hv with ⟨rfl, rfl, rfl⟩ | ⟨g, rfl, h⟩
  · cases ao <;> simp [Builtin.append_, run_underlying Tryd.underlying36, sizeOf, typeInfo, hi, Builtin.lenOf, Builtin.firstCells, loadCells, loadCellsFrom]
  · cases ao <;> simp [Builtin.append_, run_underlying Tryd.underlying36, sizeOf, typeInfo, hi, Builtin.lenOf, Builtin.firstCells, loadCells, loadCellsFrom, storeCells, h]
theorem prow_form {w : World} {B : Nat} {ao : Option Addr} {n k co : Nat} {xs : List Value} (h : w.ownsRow B 25 14 (.slice ao n co) k xs) : (ao = none ∧ n = 0 ∧ co = 0) ∨ (∃ g, ao = some ⟨g, 0, none⟩ ∧ n ≤ co) := by
  rcases h.2 with ⟨hv, h0⟩ | ⟨g, cap, cur, hv, hb, hg, hnc, _⟩
  · injection hv with ha hn hc
    exact .inl ⟨ha, hn, hc⟩
  · injection hv with ha hn hc
    subst hc hn
    exact .inr ⟨g, ha, hnc⟩
section
variable {ops : Array Oper} {rest : List Oper} {o : Oper} {a : Act} {Q : Exit → Act → World → Prop} {N M : Nat} {w W : World} {L : List Lp}
/-- a row behind a row, whatever its length (it may be nothing); the operation is wanted -/
theorem wpPs (hw : Region.wanted o (yielded ops a.tmps) = true) (hty : o.type = 36) (x y : Operand) (ho : o.op = .call { callee := .builtin .append, args := #[x, y], argTypes := #[36, 36] })
    (av : Option Addr) (n cv : Nat) (hx : a.eval x = .slice av n cv) (ad : Option Addr) (m cd : Nat) (hy : a.eval y = .slice ad m cd) (D : List Lp) (hm : D.length = m) (hn : L.length = n) (k : Nat) (hk : n + m = k) (hI : Fr N w L (.slice av n cv) W) (hD : Lies M W ad D) (hF : ∀ q ∈ D, Far N W (Value.slice av n cv).ownBlock q) (hL : k ≤ 900000000001)
    (h : ∀ g' c' W', Fr N w (L ++ D) (.slice g' k c') W' → W.heap.size ≤ W'.heap.size → wpList Tryd.prog ops Q rest (a.put o.dst (.slice g' k c')) W') :
    wpList Tryd.prog ops Q (o :: rest) a W := by
  refine wpList_step fun K hK => ?_
  rw [if_pos hw]
  subst hm hn hk
  rcases hD.1 with rfl | ⟨g, o0, rfl, hg, hc⟩
  · have hrun := pappend_zero W av L.length cv (prow_form hI.row) ad cd
    unfold Oper.wp execOp
    simp only [ho, resolve, invoke, builtin, Sem.run_bind, Sem.run_pure, Result.andThen_ok, List.map_toArray, List.map_cons, List.map_nil, hx, hy, hty, List.length_nil, hrun]
    have := h av cv W (by rw [List.append_nil]; exact hI) (Nat.le_refl _)
    exact hK _ _ this
  · by_cases h0 : D = []
    · subst h0
      have hrun := pappend_zero W av L.length cv (prow_form hI.row) (some ⟨g, o0, none⟩) cd
      unfold Oper.wp execOp
      simp only [ho, resolve, invoke, builtin, Sem.run_bind, Sem.run_pure, Result.andThen_ok, List.map_toArray, List.map_cons, List.map_nil, hx, hy, hty, List.length_nil, hrun]
      have := h av cv W (by rw [List.append_nil]; exact hI) (Nat.le_refl _)
      exact hK _ _ this
    · obtain ⟨i0, hi, hz0, hz1, hz2⟩ := pinfo
      have hp : 0 < D.length := List.length_pos_iff.2 h0
      refine wp_append_lies W x y 36 ho w.heap.size 25 i0 _ 14 144 Tryd.underlying36 hi hz0 hz1 hz2 rfl (by decide) (.slice av L.length cv) L.length _ hx hI.row ⟨g, o0, none⟩ D.length cd (lpCells D) hy (lpCells_len D) (fun j u hu => by rw [padd_plain]; exact hc j u hu) (lpCells_cell D) hp (by unfold maxLen; omega) (by omega) hI.bel.size _ rfl ?_
      intro g' cap W' hown hgrow hat hlt
      exact hK _ _ (h _ _ W' (hI.grown hF hgrow hat hown) hgrow.size)
end
theorem Far.of_old {Wb W : World} {ob : Option Nat} {q : Lp} (h : PkIn Wb q.p q.aa q.ac) (hb : Below Wb.heap.size Wb W) (hob : ∀ k, ob = some k → Wb.heap.size ≤ k) : Far 0 W ob q := by
  refine ⟨h.below hb, ?_, ?_⟩
  · rcases h.1 with e | ⟨b, o, ha, hlt, _⟩
    · exact .inl e
    · exact .inr ⟨b, o, ha, Nat.zero_le _, fun e => by have := hob b e; omega⟩
  · rcases h.2 with e | ⟨b, o, ha, hlt, _⟩
    · exact .inl e
    · exact .inr ⟨b, o, ha, Nat.zero_le _, fun e => by have := hob b e; omega⟩
theorem fr_new (W : World) : Fr 0 W [] (.slice (some ⟨W.heap.size, 0, none⟩) 0 0) (W.alloc (.cells #[] 25)) :=
  ⟨(Below.refl _ _).alloc (Nat.le_refl _) _, World.ownsRow_lit (base := W.heap.size) (e := 25) (size := 14) W #[] 0 (Nat.le_refl _) (by unfold maxLen; omega) rfl, fun q hq => by cases hq⟩
theorem fr_ge {N : Nat} {w W : World} {L : List Lp} {v : Value} (h : Fr N w L v W) : ∀ k, v.ownBlock = some k → w.heap.size ≤ k := fun _ e => (pown_at h.row e).1
theorem fr_lt {N : Nat} {w W : World} {L : List Lp} {v : Value} (h : Fr N w L v W) : ∀ k, v.ownBlock = some k → k < W.heap.size := fun _ e => pown_lt h.row e
end Go.Proofs.YtgmjdelgocbcaabDoor
