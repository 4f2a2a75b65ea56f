/-
  SessionHolds: what is held while the law goes on.
-/
import Derived.Test.YtnhcecgmcmcioaaDoorSesHoldMath
import Derived.Test.YtnhcecgmcmcioaaDoorSesBegun
import Derived.Test.YtnhcecgmcmcioaaDoorRowApp
import Derived.Test.YtnhcecgmcmcioaaDoorBlkStrs
namespace Go.Proofs.YtnhcecgmcmcioaaDoor
open Go.RowKit Go.PlainAid

theorem FlsT.grown {N M : Nat} {W W' : World} {ao : Option Addr} {l : List Fl} {e : TypeId} {k : Nat} {v : Value} {n : Nat} {xs : List Value} (h : FlsT N W ao l) (hr : W.ownsRow M e k v n xs) (ht : 46 ≠ e) (hg : W.grownBy W' v.ownBlock) : FlsT N W' ao l :=
  h.keep fun g _ _ hc => hg.block g (Array.getElem?_eq_some_iff.1 hc).1 (fun x => kown_ne hr hc ht x.symm)
theorem SAt.grown {b M : Nat} {s : Se} {va vb : Value} {W W' : World} {e : TypeId} {k : Nat} {v : Value} {n : Nat} {xs : List Value} (h : SAt b s va vb W) (hr : W.ownsRow M e k v n xs) (ht : 24 ≠ e) (hg : W.grownBy W' v.ownBlock) : SAt b s va vb W' := by
  have := h.lt
  unfold SAt at *
  rw [hg.block b this (fun x => kown_ne hr h ht x.symm)]; exact h
theorem SAt.six {b : Nat} {s : Se} {va vb : Value} {W : World} (h : SAt b s va vb W) (s' : Se) (va' vb' : Value) : SAt b s' va' vb' ((((((W.setCell ⟨b, 0, none⟩ (.string s'.client)).setCell ⟨b, 1, none⟩ (.bool s'.on)).setCell ⟨b, 2, none⟩ (.bool s'.clean)).setCell ⟨b, 3, none⟩ va').setCell ⟨b, 4, none⟩ vb').setCell ⟨b, 5, none⟩ (.int .i64 s'.next)) := by
  unfold SAt at *; simp [World.setCell, Array.getElem?_modify, h]

/-- a session in its box, and the texts beside it -/
structure Hw (b : Nat) (s : Se) (a1 : Option Addr) (c1 : Nat) (a2 : Option Addr) (c2 : Nat) (A : List ByteArray) (aa : Option Addr) (ca : Nat) (w W : World) : Prop where
  box : SAt b s (.slice a1 s.fl.length c1) (.slice a2 s.qu.length c2) W
  fl : FlsT (b + 1) W a1 s.fl
  qu : FlsT (b + 1) W a2 s.qu
  cf : s.fl.length ≤ c1
  cq : s.qu.length ≤ c2
  all : W.ownsRow (b + 1) 9 1 (.slice aa A.length ca) A.length (A.map .string)
  bel : Below w.heap.size w W
  le : w.heap.size ≤ b
section
variable {b : Nat} {s : Se} {a1 a2 aa : Option Addr} {c1 c2 ca : Nat} {A : List ByteArray} {w W W' : World}
theorem Hw.step (h : Hw b s a1 c1 a2 c2 A aa ca w W) (hb : Below W.heap.size W W') : Hw b s a1 c1 a2 c2 A aa ca w W' :=
  ⟨h.box.after hb, h.fl.below hb, h.qu.below hb, h.cf, h.cq, kown_below h.all hb, below_step h.bel hb, h.le⟩
theorem Hw.alloc (h : Hw b s a1 c1 a2 c2 A aa ca w W) (o : Obj) : Hw b s a1 c1 a2 c2 A aa ca w (W.alloc o) := h.step ((Below.refl _ W).alloc (Nat.le_refl _) o)
theorem Hw.drew (h : Hw b s a1 c1 a2 c2 A aa ca w W) : Hw b s a1 c1 a2 c2 A aa ca w W.drew := h.step (Below.drew (Below.refl _ _))
theorem Hw.drewN (h : Hw b s a1 c1 a2 c2 A aa ca w W) (n : Nat) : Hw b s a1 c1 a2 c2 A aa ca w (W.drewN n) := h.step (kbelow_drewN (Below.refl _ _) n)
theorem Hw.inn (h : Hw b s a1 c1 a2 c2 A aa ca w W) : SeIn W s a1 a2 := ⟨h.fl.inn, h.qu.inn⟩
theorem Hw.nil (h : Hw b s a1 c1 a2 c2 A aa ca w W) : Hw b s a1 c1 a2 c2 [] none 0 w W := ⟨h.box, h.fl, h.qu, h.cf, h.cq, World.ownsRow_nil _ _ _ _, h.bel, h.le⟩
/-- another row of texts -/
theorem Hw.row (h : Hw b s a1 c1 a2 c2 A aa ca w W) {A' : List ByteArray} {n : Nat} {aa' : Option Addr} {ca' : Nat} (hn : n = A'.length) (hr : W.ownsRow (b + 1) 9 1 (.slice aa' n ca') n (A'.map .string)) : Hw b s a1 c1 a2 c2 A' aa' ca' w W :=
  ⟨h.box, h.fl, h.qu, h.cf, h.cq, by subst hn; exact hr, h.bel, h.le⟩
/-- the row has grown -/
theorem Hw.grown (h : Hw b s a1 c1 a2 c2 A aa ca w W) (hg : W.grownBy W' (Value.slice aa A.length ca).ownBlock) {A' : List ByteArray} {n : Nat} {aa' : Option Addr} {ca' : Nat} (hn : n = A'.length) (hr : W'.ownsRow (b + 1) 9 1 (.slice aa' n ca') n (A'.map .string)) : Hw b s a1 c1 a2 c2 A' aa' ca' w W' :=
  ⟨h.box.grown h.all (by decide) hg, h.fl.grown h.all (by decide) hg, h.qu.grown h.all (by decide) hg, h.cf, h.cq, by subst hn; exact hr, Below.grown h.bel hg (by have := h.bel.size; omega) (fun g hgg => by have := (kown_at h.all hgg).1; have := h.le; omega), h.le⟩
/-- another row has grown, and stands in its place -/
theorem Hw.swap (h : Hw b s a1 c1 a2 c2 A aa ca w W) {M : Nat} {v : Value} {k : Nat} {xs : List Value} (hM : w.heap.size ≤ M) (hv : W.ownsRow M 9 1 v k xs) (hg : W.grownBy W' v.ownBlock) {A' : List ByteArray} {n : Nat} {aa' : Option Addr} {ca' : Nat} (hn : n = A'.length) (hr : W'.ownsRow (b + 1) 9 1 (.slice aa' n ca') n (A'.map .string)) : Hw b s a1 c1 a2 c2 A' aa' ca' w W' :=
  ⟨h.box.grown hv (by decide) hg, h.fl.grown hv (by decide) hg, h.qu.grown hv (by decide) hg, h.cf, h.cq, by subst hn; exact hr, Below.grown h.bel hg (by have := h.bel.size; omega) (fun g hgg => by have := (kown_at hv hgg).1; omega), h.le⟩
/-- another session is stored -/
theorem Hw.put (h : Hw b s a1 c1 a2 c2 A aa ca w W) {N : Nat} {s' : Se} {x1 x2 : Option Addr} {y1 y2 : Nat} (f1 : FlsT N W x1 s'.fl) (f2 : FlsT N W x2 s'.qu) (k1 : s'.fl.length ≤ y1) (k2 : s'.qu.length ≤ y2) (hN : b < N) :
    Hw b s' x1 y1 x2 y2 A aa ca w ((((((W.setCell ⟨b, 0, none⟩ (.string s'.client)).setCell ⟨b, 1, none⟩ (.bool s'.on)).setCell ⟨b, 2, none⟩ (.bool s'.clean)).setCell ⟨b, 3, none⟩ (.slice x1 s'.fl.length y1)).setCell ⟨b, 4, none⟩ (.slice x2 s'.qu.length y2)).setCell ⟨b, 5, none⟩ (.int .i64 s'.next)) := by
  have hk : ∀ g, b + 1 ≤ g → ((((((W.setCell ⟨b, 0, none⟩ (.string s'.client)).setCell ⟨b, 1, none⟩ (.bool s'.on)).setCell ⟨b, 2, none⟩ (.bool s'.clean)).setCell ⟨b, 3, none⟩ (.slice x1 s'.fl.length y1)).setCell ⟨b, 4, none⟩ (.slice x2 s'.qu.length y2)).setCell ⟨b, 5, none⟩ (.int .i64 s'.next)).heap[g]? = W.heap[g]? := fun g hg => by
    have hne : g ≠ b := by omega
    rw [Below.heap_setCell _ _ _ _ hne, Below.heap_setCell _ _ _ _ hne, Below.heap_setCell _ _ _ _ hne, Below.heap_setCell _ _ _ _ hne, Below.heap_setCell _ _ _ _ hne, Below.heap_setCell _ _ _ _ hne]
  exact ⟨h.box.six s' _ _, (f1.mono hN).keep fun g _ hg _ => hk g hg, (f2.mono hN).keep fun g _ hg _ => hk g hg, k1, k2, kown_kept h.all fun g hg => hk g (kown_at h.all hg).1, ssix_below h.bel h.le _ _ _ _ _ _, h.le⟩
end
theorem block_six (W : World) {Z g : Nat} (hg : g ≠ Z) (v0 v1 v2 v3 v4 v5 : Value) : ((((((W.setCell ⟨Z, 0, none⟩ v0).setCell ⟨Z, 1, none⟩ v1).setCell ⟨Z, 2, none⟩ v2).setCell ⟨Z, 3, none⟩ v3).setCell ⟨Z, 4, none⟩ v4).setCell ⟨Z, 5, none⟩ v5).heap[g]? = W.heap[g]? := by
  rw [Below.heap_setCell _ _ _ _ hg, Below.heap_setCell _ _ _ _ hg, Below.heap_setCell _ _ _ _ hg, Below.heap_setCell _ _ _ _ hg, Below.heap_setCell _ _ _ _ hg, Below.heap_setCell _ _ _ _ hg]
theorem cell_six {W : World} {Z b o : Nat} {x : Value} (hb : b < Z) (h : W.cell? ⟨b, o, none⟩ = some x) (v0 v1 v2 v3 v4 v5 : Value) : ((((((W.setCell ⟨Z, 0, none⟩ v0).setCell ⟨Z, 1, none⟩ v1).setCell ⟨Z, 2, none⟩ v2).setCell ⟨Z, 3, none⟩ v3).setCell ⟨Z, 4, none⟩ v4).setCell ⟨Z, 5, none⟩ v5).cell? ⟨b, o, none⟩ = some x := by
  rw [World.cell?_of_block (w := W) (a := ⟨b, o, none⟩) (block_six W (by show b ≠ Z; omega) v0 v1 v2 v3 v4 v5)]
  exact h
/-- seven cells are as they were behind six stores into a later block -/
theorem s7_six {W : World} {Z : Nat} {b0 o0 : Nat} {x0 : Value} {b1 o1 : Nat} {x1 : Value} {b2 o2 : Nat} {x2 : Value} {b3 o3 : Nat} {x3 : Value} {b4 o4 : Nat} {x4 : Value} {b5 o5 : Nat} {x5 : Value} {b6 o6 : Nat} {x6 : Value} (h0 : W.cell? ⟨b0, o0, none⟩ = some x0) (h1 : W.cell? ⟨b1, o1, none⟩ = some x1) (h2 : W.cell? ⟨b2, o2, none⟩ = some x2) (h3 : W.cell? ⟨b3, o3, none⟩ = some x3) (h4 : W.cell? ⟨b4, o4, none⟩ = some x4) (h5 : W.cell? ⟨b5, o5, none⟩ = some x5) (h6 : W.cell? ⟨b6, o6, none⟩ = some x6) (l0 : b0 < Z) (l1 : b1 < Z) (l2 : b2 < Z) (l3 : b3 < Z) (l4 : b4 < Z) (l5 : b5 < Z) (l6 : b6 < Z) (v0 v1 v2 v3 v4 v5 : Value) : ((((((W.setCell ⟨Z, 0, none⟩ v0).setCell ⟨Z, 1, none⟩ v1).setCell ⟨Z, 2, none⟩ v2).setCell ⟨Z, 3, none⟩ v3).setCell ⟨Z, 4, none⟩ v4).setCell ⟨Z, 5, none⟩ v5).cell? ⟨b0, o0, none⟩ = some x0 ∧ ((((((W.setCell ⟨Z, 0, none⟩ v0).setCell ⟨Z, 1, none⟩ v1).setCell ⟨Z, 2, none⟩ v2).setCell ⟨Z, 3, none⟩ v3).setCell ⟨Z, 4, none⟩ v4).setCell ⟨Z, 5, none⟩ v5).cell? ⟨b1, o1, none⟩ = some x1 ∧ ((((((W.setCell ⟨Z, 0, none⟩ v0).setCell ⟨Z, 1, none⟩ v1).setCell ⟨Z, 2, none⟩ v2).setCell ⟨Z, 3, none⟩ v3).setCell ⟨Z, 4, none⟩ v4).setCell ⟨Z, 5, none⟩ v5).cell? ⟨b2, o2, none⟩ = some x2 ∧ ((((((W.setCell ⟨Z, 0, none⟩ v0).setCell ⟨Z, 1, none⟩ v1).setCell ⟨Z, 2, none⟩ v2).setCell ⟨Z, 3, none⟩ v3).setCell ⟨Z, 4, none⟩ v4).setCell ⟨Z, 5, none⟩ v5).cell? ⟨b3, o3, none⟩ = some x3 ∧ ((((((W.setCell ⟨Z, 0, none⟩ v0).setCell ⟨Z, 1, none⟩ v1).setCell ⟨Z, 2, none⟩ v2).setCell ⟨Z, 3, none⟩ v3).setCell ⟨Z, 4, none⟩ v4).setCell ⟨Z, 5, none⟩ v5).cell? ⟨b4, o4, none⟩ = some x4 ∧ ((((((W.setCell ⟨Z, 0, none⟩ v0).setCell ⟨Z, 1, none⟩ v1).setCell ⟨Z, 2, none⟩ v2).setCell ⟨Z, 3, none⟩ v3).setCell ⟨Z, 4, none⟩ v4).setCell ⟨Z, 5, none⟩ v5).cell? ⟨b5, o5, none⟩ = some x5 ∧ ((((((W.setCell ⟨Z, 0, none⟩ v0).setCell ⟨Z, 1, none⟩ v1).setCell ⟨Z, 2, none⟩ v2).setCell ⟨Z, 3, none⟩ v3).setCell ⟨Z, 4, none⟩ v4).setCell ⟨Z, 5, none⟩ v5).cell? ⟨b6, o6, none⟩ = some x6 :=
  ⟨cell_six l0 h0 v0 v1 v2 v3 v4 v5, cell_six l1 h1 v0 v1 v2 v3 v4 v5, cell_six l2 h2 v0 v1 v2 v3 v4 v5, cell_six l3 h3 v0 v1 v2 v3 v4 v5, cell_six l4 h4 v0 v1 v2 v3 v4 v5, cell_six l5 h5 v0 v1 v2 v3 v4 v5, cell_six l6 h6 v0 v1 v2 v3 v4 v5⟩
/-- another box of a session is written -/
theorem Hw.other {b : Nat} {s : Se} {a1 a2 aa : Option Addr} {c1 c2 ca : Nat} {A : List ByteArray} {w W : World} (h : Hw b s a1 c1 a2 c2 A aa ca w W) {Z : Nat} {s0 : Se} {u0 u1 : Value} (hz : SAt Z s0 u0 u1 W) (hne : b < Z) (v0 v1 v2 v3 v4 v5 : Value) : Hw b s a1 c1 a2 c2 A aa ca w ((((((W.setCell ⟨Z, 0, none⟩ v0).setCell ⟨Z, 1, none⟩ v1).setCell ⟨Z, 2, none⟩ v2).setCell ⟨Z, 3, none⟩ v3).setCell ⟨Z, 4, none⟩ v4).setCell ⟨Z, 5, none⟩ v5) := by
  have hf : ∀ g cur, W.heap[g]? = some (.cells cur 46 (0, 0)) → g ≠ Z := fun g cur hg e => by
    unfold SAt at hz
    rw [e, hz] at hg
    simp only [Option.some.injEq, Obj.cells.injEq] at hg
    exact absurd hg.2.1 (by decide)
  have hle := h.le
  refine ⟨?_, h.fl.keep fun g cur _ hg => block_six W (hf g cur hg) v0 v1 v2 v3 v4 v5, h.qu.keep fun g cur _ hg => block_six W (hf g cur hg) v0 v1 v2 v3 v4 v5, h.cf, h.cq, kown_kept h.all fun g hg => block_six W (fun e => kown_ne h.all hz (by decide) (by rw [hg, e])) v0 v1 v2 v3 v4 v5, ssix_below h.bel (by omega) _ _ _ _ _ _, h.le⟩
  have := h.box
  unfold SAt at *
  rw [block_six W (by omega) v0 v1 v2 v3 v4 v5]; exact this
theorem cell_alloc {W : World} {b o : Nat} {x : Value} (h : W.cell? ⟨b, o, none⟩ = some x) (ob : Obj) : (W.alloc ob).cell? ⟨b, o, none⟩ = some x := Lib.cell?_alloc_some ob h
/-- seven cells are as they were behind a new block -/
theorem s7_alloc {W : World} {b0 o0 : Nat} {x0 : Value} {b1 o1 : Nat} {x1 : Value} {b2 o2 : Nat} {x2 : Value} {b3 o3 : Nat} {x3 : Value} {b4 o4 : Nat} {x4 : Value} {b5 o5 : Nat} {x5 : Value} {b6 o6 : Nat} {x6 : Value} (h0 : W.cell? ⟨b0, o0, none⟩ = some x0) (h1 : W.cell? ⟨b1, o1, none⟩ = some x1) (h2 : W.cell? ⟨b2, o2, none⟩ = some x2) (h3 : W.cell? ⟨b3, o3, none⟩ = some x3) (h4 : W.cell? ⟨b4, o4, none⟩ = some x4) (h5 : W.cell? ⟨b5, o5, none⟩ = some x5) (h6 : W.cell? ⟨b6, o6, none⟩ = some x6) (ob : Obj) : (W.alloc ob).cell? ⟨b0, o0, none⟩ = some x0 ∧ (W.alloc ob).cell? ⟨b1, o1, none⟩ = some x1 ∧ (W.alloc ob).cell? ⟨b2, o2, none⟩ = some x2 ∧ (W.alloc ob).cell? ⟨b3, o3, none⟩ = some x3 ∧ (W.alloc ob).cell? ⟨b4, o4, none⟩ = some x4 ∧ (W.alloc ob).cell? ⟨b5, o5, none⟩ = some x5 ∧ (W.alloc ob).cell? ⟨b6, o6, none⟩ = some x6 :=
  ⟨cell_alloc h0 ob, cell_alloc h1 ob, cell_alloc h2 ob, cell_alloc h3 ob, cell_alloc h4 ob, cell_alloc h5 ob, cell_alloc h6 ob⟩
/-- what fl's cells are, as what is appended -/
theorem fls_news {N : Nat} {W : World} {ao : Option Addr} {l : List Fl} (h : FlsT N W ao l) : l.length ≠ 0 → ∃ A, ao = some A ∧ ∀ j u, (flCells l)[j]? = some u → W.cell? (A.add j) = some u := fun hn => by
  rcases h with h | ⟨g, o, cur, ha, _, hg, hc⟩
  · exact absurd (by rw [h]; rfl) hn
  · refine ⟨_, ha, fun j u hu => ?_⟩
    have hlen := flCells_len l
    have hj : j < l.length * 3 := by rw [← hlen]; exact (List.getElem?_eq_some_iff.1 hu).1
    have hi : j / 3 < l.length := by omega
    obtain ⟨q0, q1, q2⟩ := hc (j / 3) hi
    obtain ⟨r0, r1, r2⟩ := flCells_get l (j / 3) hi
    rw [add_at]
    have h3 : j = j / 3 * 3 ∨ j = j / 3 * 3 + 1 ∨ j = j / 3 * 3 + 2 := by omega
    rcases h3 with e | e | e
    · rw [← e] at r0 q0; rw [q0, ← hu, r0]
    · rw [← e] at r1; rw [show o + j = o + j / 3 * 3 + 1 by omega, q1, ← hu, r1]
    · rw [← e] at r2; rw [show o + j = o + j / 3 * 3 + 2 by omega, q2, ← hu, r2]
theorem flCells_one (l : List Fl) : ∀ u ∈ flCells l, u.oneCell' = true := by
  intro u hu
  simp only [flCells, List.mem_flatMap] at hu
  obtain ⟨o, _, hu⟩ := hu
  simp at hu
  rcases hu with rfl | rfl | rfl <;> rfl
theorem str_one (l : List ByteArray) : ∀ u ∈ l.map Value.string, u.oneCell' = true := by
  intro u hu
  obtain ⟨o, _, rfl⟩ := List.mem_map.1 hu
  rfl
end Go.Proofs.YtnhcecgmcmcioaaDoor
