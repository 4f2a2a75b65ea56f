/-
  Rows of one's own: cells stored in place, a row cleared and cut.
-/
import Derived.Test.YtnhcecgmcmcioaaDoorRowBase
import Derived.Lib.SliceRun
namespace Go.Proofs.YtnhcecgmcmcioaaDoor
open Go.RowKit Go.PlainAid

theorem kown_set {w : World} {N : Nat} {e : TypeId} {k : Nat} {v : Value} {n : Nat} {xs : List Value} (h : w.ownsRow N e k v n xs) {g : Nat} (hv : v.ownBlock = some g) (o : Nat) (x : Value) : (w.setCell ⟨g, o, none⟩ x).ownsRow N e k v n (xs.set o x) := by
  refine ⟨by simpa using h.1, ?_⟩
  rcases h.2 with ⟨rfl, _⟩ | ⟨g', cap, cur, rfl, hb, hg, h1, h2, h3, h4⟩
  · cases hv
  · have e' : g' = g := by simpa [Value.ownBlock] using hv
    subst e'
    refine .inr ⟨g', cap, cur.setIfInBounds o x, rfl, hb, ?_, h1, h2, by simpa using h3, ?_⟩
    · simp [World.setCell, Array.getElem?_modify, hg]
    · rw [Array.toList_setIfInBounds, List.take_set, h4]
theorem grownBy_set (w : World) (g o : Nat) (x : Value) : w.grownBy (w.setCell ⟨g, o, none⟩ x) (some g) :=
  ⟨rfl, rfl, rfl, by simp [World.setCell], fun k _ hne => Below.heap_setCell _ _ _ _ (fun e => hne (congrArg some e))⟩
theorem grownBy_trans {a b c : World} {r : Option Nat} (h : a.grownBy b r) (h' : b.grownBy c r) : a.grownBy c r :=
  ⟨h'.os.trans h.os, h'.tape.trans h.tape, h'.output.trans h.output, Nat.le_trans h.size h'.size, fun k hk hne => (h'.block k (Nat.lt_of_lt_of_le hk h.size) hne).trans (h.block k hk hne)⟩
theorem grownBy_below {a b : World} (h : Below a.heap.size a b) (r : Option Nat) : a.grownBy b r := ⟨h.os, h.tape, h.output, h.size, fun k hk _ => h.block k hk⟩
theorem grownBy_refl (a : World) (r : Option Nat) : a.grownBy a r := ⟨rfl, rfl, rfl, Nat.le_refl _, fun _ _ _ => rfl⟩
theorem grownBy_drewN (w : World) (n : Nat) (r : Option Nat) : w.grownBy (w.drewN n) r := ⟨rfl, rfl, rfl, Nat.le_refl _, fun _ _ _ => rfl⟩
theorem grownBy_alloc (w : World) (o : Obj) (r : Option Nat) : w.grownBy (w.alloc o) r := grownBy_below ((Below.refl _ w).alloc (Nat.le_refl _) o) r

theorem setCells_block (g : Nat) : ∀ (vs : List Value) (o : Nat) (w : World) (cur : Array Value) (t : TypeId), w.heap[g]? = some (.cells cur t (0, 0)) →
    ∃ cur', (w.setCells g o vs).heap[g]? = some (.cells cur' t (0, 0)) ∧ cur'.size = cur.size ∧ cur'.toList.take o = cur.toList.take o
  | [], _, _, cur, _, h => ⟨cur, h, rfl, rfl⟩
  | v :: r, o, w, cur, t, h => by
    obtain ⟨c', h1, h2, h3⟩ := setCells_block g r (o + 1) (w.setCell ⟨g, o, none⟩ v) (cur.setIfInBounds o v) t (by simp [World.setCell, Array.getElem?_modify, h])
    refine ⟨c', h1, by simpa using h2, ?_⟩
    have e1 : c'.toList.take o = (c'.toList.take (o + 1)).take o := by rw [List.take_take, Nat.min_eq_left (Nat.le_succ o)]
    have e2 : cur.toList.take o = (cur.toList.take (o + 1)).take o := by rw [List.take_take, Nat.min_eq_left (Nat.le_succ o)]
    rw [e1, h3, Array.toList_setIfInBounds, List.take_take, Nat.min_eq_left (Nat.le_succ o), List.take_set_of_le (Nat.le_refl o)]
theorem grownBy_setCells (g : Nat) : ∀ (vs : List Value) (o : Nat) (w : World), w.grownBy (w.setCells g o vs) (some g)
  | [], _, w => grownBy_refl w _
  | v :: r, o, w => grownBy_trans (grownBy_set w g o v) (grownBy_setCells g r (o + 1) _)
theorem kown_clear_cut {w : World} {N : Nat} {e : TypeId} {k : Nat} {g n c : Nat} {xs : List Value} (h : w.ownsRow N e k (.slice (some ⟨g, 0, none⟩) n c) n xs) (m : Nat) (hm : m ≤ n) (vs : List Value) : (w.setCells g (m * k) vs).ownsRow N e k (.slice (some ⟨g, 0, none⟩) m c) m (xs.take (m * k)) := by
  have hmk : m * k ≤ n * k := Nat.mul_le_mul_right _ hm
  refine ⟨by rw [List.length_take, h.1]; omega, ?_⟩
  rcases h.2 with ⟨hv, _⟩ | ⟨g', cap, cur, hv, hb, hg, h1, h2, h3, h4⟩
  · cases hv
  · injection hv with e1 e2 e3
    injection e1 with e1
    injection e1 with e1 _ _
    subst e1 e3
    obtain ⟨c', q1, q2, q3⟩ := setCells_block g vs (m * k) w cur e hg
    refine .inr ⟨g, c, c', rfl, hb, q1, by omega, h2, by rw [q2, h3], ?_⟩
    rw [q3, ← h4, List.take_take, Nat.min_eq_left hmk]
theorem kown_cut {w : World} {N : Nat} {e : TypeId} {k : Nat} {g n c : Nat} {xs : List Value} (h : w.ownsRow N e k (.slice (some ⟨g, 0, none⟩) n c) n xs) (m : Nat) (hm : m ≤ n) : w.ownsRow N e k (.slice (some ⟨g, 0, none⟩) m c) m (xs.take (m * k)) :=
  kown_clear_cut h m hm []
/-- a row's cells are there, and none is frozen -/
theorem kown_there {w : World} {N : Nat} {e : TypeId} {k : Nat} {g n c : Nat} {xs : List Value} (h : w.ownsRow N e k (.slice (some ⟨g, 0, none⟩) n c) n xs) : (∀ j, j < n * k → w.cell? ⟨g, j, none⟩ = xs[j]?) ∧ (∀ j, w.frozen? ⟨g, j, none⟩ = false) ∧ n ≤ c := by
  rcases h.2 with ⟨hv, _⟩ | ⟨g', cap, cur, hv, hb, hg, h1, h2, h3, h4⟩
  · cases hv
  · injection hv with e1 e2 e3
    injection e1 with e1
    injection e1 with e1 _ _
    subst e1 e3
    refine ⟨fun j hj => ?_, fun j => Lib.frozen_of_heap hg j, h1⟩
    rw [Lib.cell_of_heap hg, ← h4, List.getElem?_take, if_pos hj]
    simp

section
variable {P : Program}
theorem zeroCells_len (z : Array Value) (n : Nat) : (Builtin.zeroCells z n).toList.length = n * z.size := by simp [Builtin.zeroCells]
theorem zeroCells_mem {z : Array Value} {n : Nat} {v : Value} (h : v ∈ (Builtin.zeroCells z n).toList) : v ∈ z.toList := by
  simp only [Builtin.zeroCells, Array.toList_map, List.mem_map] at h
  obtain ⟨i, hi, rfl⟩ := h
  have hz : 0 < z.size := by
    rcases Nat.eq_zero_or_pos z.size with h0 | h0
    · rw [h0] at hi; simp at hi
    · exact h0
  have hlt : i % z.size < z.size := Nat.mod_lt _ hz
  rw [getElem!_pos z _ hlt]
  simp
/-- 'clear(s)', s a slice of n > 0 structs -/
theorem run_clear_cells (w : World) (t e ty : TypeId) (z : Array Value) (ht : P.underlying t = some (.slice e)) (hv : ∀ w, (zeroValue e).run P w = .ok (.agg z) w) (h1 : ∀ v ∈ z.toList, v.oneCell' = true) (b o n c : Nat) (hn : 0 < n)
    (hc : ∀ j, j < n * z.size → (w.cell? ⟨b, o + j, none⟩).isSome = true) (hf : ∀ j, j < n * z.size → w.frozen? ⟨b, o + j, none⟩ = false) :
    (Builtin.clear_ #[t] ty #[.slice (some ⟨b, o, none⟩) n c]).run P w = .ok (.tuple #[]) (w.setCells b o (Builtin.zeroCells z n).toList) := by
  have hl := zeroCells_len z n
  have hst := run_storeCells_cells (P := P) b o (Builtin.zeroCells z n).toList 0 w (by rw [hl]; simpa using hc) (by rw [hl]; simpa using hf) (fun v hv' => h1 v (zeroCells_mem hv'))
  simp only [Nat.add_zero] at hst
  obtain ⟨m, rfl⟩ : ∃ m, n = m + 1 := ⟨n - 1, by omega⟩
  simp [Builtin.clear_, go_sem, run_underlying ht, hv, hst]
end
end Go.Proofs.YtnhcecgmcmcioaaDoor
