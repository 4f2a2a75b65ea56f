/-
  session.sender in memory: its fields, its rows, what a step leaves.
-/
import Derived.Test.YtnhcecgmcmcioaaDoorSesClone
namespace Go.Proofs.YtnhcecgmcmcioaaDoor
open Go.RowKit Go.PlainAid

/-- the cells of a packet that is sent -/
def spC (p : Pk) : List Value := [.int .i64 p.kind, .bool p.dup, .bool p.retain, .bool p.clean, .bool p.session, .int .i64 p.qos, .int .i64 p.id, .int .i64 p.keep, .int .i64 p.code, .string p.client, .string p.topic, .string p.payload, .slice none 0 0, .slice none 0 0]
def spCells (l : List Pk) : List Value := l.flatMap spC
theorem spCells_append (a b : List Pk) : spCells (a ++ b) = spCells a ++ spCells b := by simp [spCells]
theorem spCells_one (p : Pk) : spCells [p] = spC p := by simp [spCells]
theorem spC_cell (p : Pk) : ∀ u ∈ spC p, u.oneCell' = true := by
  intro u hu
  simp only [spC, List.mem_cons, List.not_mem_nil, or_false] at hu
  rcases hu with rfl | rfl | rfl | rfl | rfl | rfl | rfl | rfl | rfl | rfl | rfl | rfl | rfl | rfl <;> rfl

/-- a sender's fields in block b -/
def NAt (b : Nat) (s : Se) (va vb vs : Value) (w : World) : Prop := w.heap[b]? = some (.cells #[.string s.client, .bool s.on, .bool s.clean, va, vb, .int .i64 s.next, vs] 53 (0, 0))
theorem NAt.lt {b : Nat} {s : Se} {va vb vs : Value} {w : World} (h : NAt b s va vb vs w) : b < w.heap.size := (Array.getElem?_eq_some_iff.1 h).1
theorem NAt.cell {b : Nat} {s : Se} {va vb vs : Value} {w : World} (h : NAt b s va vb vs w) (o : Nat) : w.cell? ⟨b, o, none⟩ = (#[.string s.client, .bool s.on, .bool s.clean, va, vb, .int .i64 s.next, vs] : Array Value)[o]? := Lib.cell_of_heap h o
theorem NAt.frozen {b : Nat} {s : Se} {va vb vs : Value} {w : World} (h : NAt b s va vb vs w) (o : Nat) : w.frozen? ⟨b, o, none⟩ = false := Lib.frozen_of_heap h o

/-- what waits, seen from a place on: it lies in no row that grows -/
def Qv (N : Nat) (W : World) (va : Value) (ab : Option Addr) (q : List Fl) : Prop :=
  q = [] ∨ ∃ g o cur, ab = some ⟨g, o, none⟩ ∧ N ≤ g ∧ va.ownBlock ≠ some g ∧ W.heap[g]? = some (.cells cur 46 (0, 0)) ∧ ∀ i (h : i < q.length), W.cell? ⟨g, o + i * 3, none⟩ = some (.int .i64 q[i].id) ∧ W.cell? ⟨g, o + i * 3 + 1, none⟩ = some (.string q[i].topic) ∧ W.cell? ⟨g, o + i * 3 + 2, none⟩ = some (.string q[i].load)
theorem Qv.keep {N : Nat} {W W' : World} {va va' : Value} {ab : Option Addr} {q : List Fl} (h : Qv N W va ab q) (hk : ∀ g cur, N ≤ g → va.ownBlock ≠ some g → W.heap[g]? = some (.cells cur 46 (0, 0)) → W'.heap[g]? = W.heap[g]? ∧ va'.ownBlock ≠ some g) : Qv N W' va' ab q := by
  rcases h with h | ⟨g, o, cur, ha, hN, hne, hg, hc⟩
  · exact .inl h
  · obtain ⟨k1, k2⟩ := hk g cur hN hne hg
    refine .inr ⟨g, o, cur, ha, hN, k2, by rw [k1]; exact hg, fun i hi => ?_⟩
    rw [World.cell?_of_block (w := W) (a := ⟨g, _, none⟩) k1, World.cell?_of_block (w := W) (a := ⟨g, _, none⟩) k1, World.cell?_of_block (w := W) (a := ⟨g, _, none⟩) k1]
    exact hc i hi

/-- a sender that goes on, from N on -/
structure Sd (N b : Nat) (s : Se) (va : Value) (ab : Option Addr) (cb : Nat) (vs : Value) (L : List Pk) (w W : World) : Prop where
  box : NAt b s va (.slice ab s.qu.length cb) vs W
  fl : W.ownsRow N 46 3 va s.fl.length (flCells s.fl)
  qu : Qv N W va ab s.qu
  sent : W.ownsRow N 57 14 vs L.length (spCells L)
  bel : Below N w W
  le : N ≤ b
  ge : s.qu.length ≤ cb

theorem kown_ne {w : World} {N : Nat} {e : TypeId} {k : Nat} {v : Value} {n : Nat} {xs : List Value} (h : w.ownsRow N e k v n xs) {b : Nat} {c : Array Value} {t : TypeId} {fz : Nat × Nat} (hb : w.heap[b]? = some (.cells c t fz)) (ht : t ≠ e) : v.ownBlock ≠ some b := fun he => by
  obtain ⟨_, cur, hc⟩ := kown_at h he
  rw [hb] at hc
  simp only [Option.some.injEq, Obj.cells.injEq] at hc
  exact ht hc.2.1

section
variable {N b : Nat} {s : Se} {va : Value} {ab : Option Addr} {cb : Nat} {vs : Value} {L : List Pk} {w W W' : World}
theorem Sd.step (h : Sd N b s va ab cb vs L w W) (hb : Below W.heap.size W W') : Sd N b s va ab cb vs L w W' := by
  have hlt := h.box.lt
  refine ⟨?_, kown_below h.fl hb, h.qu.keep fun g cur _ hne hg => ⟨hb.block g (Array.getElem?_eq_some_iff.1 hg).1, hne⟩, kown_below h.sent hb, h.bel.trans (hb.mono (by have := h.le; omega)), h.le, h.ge⟩
  have := h.box; unfold NAt at *; rw [hb.block b hlt]; exact this
theorem Sd.drew (h : Sd N b s va ab cb vs L w W) : Sd N b s va ab cb vs L w W.drew := h.step (Below.drew (Below.refl _ _))
theorem Sd.drewN (h : Sd N b s va ab cb vs L w W) (n : Nat) : Sd N b s va ab cb vs L w (W.drewN n) := h.step (kbelow_drewN (Below.refl _ _) n)
theorem Sd.alloc (h : Sd N b s va ab cb vs L w W) (o : Obj) : Sd N b s va ab cb vs L w (W.alloc o) := h.step ((Below.refl _ W).alloc (Nat.le_refl _) o)
/-- a store into its block -/
theorem Sd.put (h : Sd N b s va ab cb vs L w W) (o : Nat) (x : Value) {s' : Se} {va' : Value} {ab' : Option Addr} {cb' : Nat} {vs' : Value} {L' : List Pk} (hbox : NAt b s' va' (.slice ab' s'.qu.length cb') vs' (W.setCell ⟨b, o, none⟩ x))
    (hf : W.ownsRow N 46 3 va' s'.fl.length (flCells s'.fl)) (hq : Qv N W va' ab' s'.qu) (hs : W.ownsRow N 57 14 vs' L'.length (spCells L')) (hg : s'.qu.length ≤ cb') : Sd N b s' va' ab' cb' vs' L' w (W.setCell ⟨b, o, none⟩ x) := by
  refine ⟨hbox, kown_kept hf fun g hgg => Below.heap_setCell _ _ _ _ (fun e => ?_), hq.keep fun g cur _ hne hgg => ⟨Below.heap_setCell _ _ _ _ (fun e => ?_), hne⟩, kown_kept hs fun g hgg => Below.heap_setCell _ _ _ _ (fun e => ?_), h.bel.setCell h.le _, h.le, hg⟩
  · exact kown_ne hf h.box (by decide) (by rw [hgg]; exact congrArg some e)
  · have e' : g = b := e
    subst e'
    have := h.box; unfold NAt at this
    rw [this] at hgg
    simp only [Option.some.injEq, Obj.cells.injEq] at hgg
    exact absurd hgg.2.1 (by decide)
  · exact kown_ne hs h.box (by decide) (by rw [hgg]; exact congrArg some e)
/-- what an append to what was sent leaves (its new value not stored yet) -/
theorem Sd.sentMore (h : Sd N b s va ab cb vs L w W) (hg : W.grownBy W' vs.ownBlock) : NAt b s va (.slice ab s.qu.length cb) vs W' ∧ W'.ownsRow N 46 3 va s.fl.length (flCells s.fl) ∧ Qv N W' va ab s.qu ∧ Below N w W' := by
  have hlt := h.box.lt
  refine ⟨?_, kown_kept h.fl fun g hgg => hg.block g (kown_lt h.fl hgg) (fun e => ?_), h.qu.keep fun g cur _ hne hgg => ⟨hg.block g (Array.getElem?_eq_some_iff.1 hgg).1 (fun e => ?_), hne⟩, Below.grown h.bel hg (by have := h.le; omega) (fun g hgg => (kown_at h.sent hgg).1)⟩
  · have := h.box
    have hne := kown_ne h.sent this (by decide)
    unfold NAt at *
    rw [hg.block b hlt (fun e => hne e.symm)]; exact this
  · obtain ⟨_, cur, hc⟩ := kown_at h.fl hgg
    exact kown_ne h.sent hc (by decide) e.symm
  · exact kown_ne h.sent hgg (by decide) e.symm
/-- .. to what flies -/
theorem Sd.flMore (h : Sd N b s va ab cb vs L w W) (hg : W.grownBy W' va.ownBlock) : NAt b s va (.slice ab s.qu.length cb) vs W' ∧ W'.ownsRow N 57 14 vs L.length (spCells L) ∧ Below N w W' ∧ (∀ g cur, va.ownBlock ≠ some g → W.heap[g]? = some (.cells cur 46 (0, 0)) → W'.heap[g]? = W.heap[g]?) := by
  have hlt := h.box.lt
  refine ⟨?_, kown_kept h.sent fun g hgg => hg.block g (kown_lt h.sent hgg) (fun e => ?_), Below.grown h.bel hg (by have := h.le; omega) (fun g hgg => (kown_at h.fl hgg).1), fun g cur hne hgg => hg.block g (Array.getElem?_eq_some_iff.1 hgg).1 (fun e => hne e.symm)⟩
  · have := h.box
    have hne := kown_ne h.fl this (by decide)
    unfold NAt at *
    rw [hg.block b hlt (fun e => hne e.symm)]; exact this
  · obtain ⟨_, cur, hc⟩ := kown_at h.sent hgg
    exact kown_ne h.fl hc (by decide) e.symm
/-- .. and its new value is stored -/
theorem Sd.sentPut (h : Sd N b s va ab cb vs L w W) (hg : W.grownBy W' vs.ownBlock) {v' : Value} {L' : List Pk} (hown : W'.ownsRow N 57 14 v' L'.length (spCells L')) : Sd N b s va ab cb v' L' w (W'.setCell ⟨b, 6, none⟩ v') := by
  obtain ⟨b1, f1, q1, bel1⟩ := h.sentMore hg
  refine ⟨?_, kown_kept f1 fun g hgg => Below.heap_setCell _ _ _ _ (fun e => kown_ne f1 b1 (by decide) (by rw [hgg]; exact congrArg some e)), q1.keep fun g cur _ hne hgg => ⟨Below.heap_setCell _ _ _ _ (fun e => ?_), hne⟩, kown_kept hown fun g hgg => Below.heap_setCell _ _ _ _ (fun e => kown_ne hown b1 (by decide) (by rw [hgg]; exact congrArg some e)), bel1.setCell h.le _, h.le, h.ge⟩
  · unfold NAt at *; simp [World.setCell, Array.getElem?_modify, b1]
  · have e' : g = b := e
    subst e'
    unfold NAt at b1
    rw [b1] at hgg
    simp only [Option.some.injEq, Obj.cells.injEq] at hgg
    exact absurd hgg.2.1 (by decide)
theorem Sd.flights {aa : Option Addr} {ca : Nat} (h : Sd N b s (.slice aa s.fl.length ca) ab cb vs L w W) : FlsIn W aa s.fl := own_fls h.fl rfl
end

section
variable {ops : Array Oper} {o : Oper} {a : Act} {K : Act → World → Prop} {Q : Exit → Act → World → Prop} {E : Prop} {N b : Nat} {s : Se} {va : Value} {ab : Option Addr} {cb : Nat} {vs : Value} {L : List Pk} {w W : World}
/-- a packet more is sent -/
theorem stepSent (hgd : o.guard = none) (x y : Operand) (ho : o.op = .call { callee := .builtin .append, args := #[x, y], argTypes := #[25, 25] })
    (hx : a.eval x = vs) (B : Nat) (hy : a.eval y = .slice (some ⟨B, 0, none⟩) 1 1) (hI : Sd N b s va ab cb vs L w W) (p : Pk) (hB : W.heap[B]? = some (.cells (spC p).toArray 57 (0, 0))) (hk : L.length ≤ 1048576)
    (h : ∀ g cap W', W'.ownsRow N 57 14 (.slice (some ⟨g, 0, none⟩) (L.length + 1) cap) (L ++ [p]).length (spCells (L ++ [p])) → W.grownBy W' vs.ownBlock → K (a.put o.dst (.slice (some ⟨g, 0, none⟩) (L.length + 1) cap)) W') :
    if Region.wanted o (yielded ops a.tmps) = true then Oper.wp Tryd.prog o a W K Q else E := by
  obtain ⟨i0, hi, hz0, hz1, hz2⟩ := info_parts (show (Tryd.prog.info? 57).map (fun i => (i.zero, i.size, i.bytes)) = some (some (.agg #[.int .i64 0, .bool false, .bool false, .bool false, .bool false, .int .i64 0, .int .i64 0, .int .i64 0, .int .i64 0, .string ⟨#[]⟩, .string ⟨#[]⟩, .string ⟨#[]⟩, .slice none 0 0, .slice none 0 0]), 14, 144) by kernel_rfl)
  refine step_append_lies W hgd x y 25 ho N 57 i0 _ 14 144 Tryd.underlying25 hi hz0 hz1 hz2 rfl (by decide) vs L.length _ hx hI.sent ⟨B, 0, none⟩ 1 1 (spC p) hy rfl (World.news_of_block hB) (spC_cell p) (by decide) (by unfold maxLen; omega) (by omega) (Nat.le_trans hI.le (Nat.le_of_lt hI.box.lt)) _ rfl ?_
  intro g cap W' hown hgrow hat hlt
  refine h g cap W' ?_ hgrow
  rw [List.length_append, spCells_append, spCells_one]
  exact hown
end
end Go.Proofs.YtnhcecgmcmcioaaDoor
