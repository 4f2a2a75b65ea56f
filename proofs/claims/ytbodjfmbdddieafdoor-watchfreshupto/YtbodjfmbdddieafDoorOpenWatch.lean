/-
  A row of watches among the arguments, opened: where it lies.
-/
import Derived.Test.YtbodjfmbdddieafDoorWatchMath
import Derived.Test.YtbodjfmbdddieafDoorOpenBase
import Derived.Deep.Strs
import Derived.Lib.SmallJoins
namespace Go.Proofs.YtbodjfmbdddieafDoor
open Go.RowKit Go.ChangeShapes Go.WideShapes Go.Deep

theorem bulk_mem {H : Type} {x : DataW H} : ∀ {l : List (DataW H)}, x ∈ l → Rows.uptoBulk x ≤ Rows.uptoBulkAll l
  | [], h => by simp at h
  | y :: l, h => by
    simp only [Rows.uptoBulkAll]
    rcases List.mem_cons.1 h with rfl | h
    · omega
    · have := bulk_mem h
      omega

section
variable {H : Type} {enc : TypeId × Value → H} {w : World} {base : Nat} {spare : Nat → Bool} {held : Bool}

set_option maxRecDepth 100000 in
theorem open_wtl {r : Reach} {b0 : Nat} {v : Value} {d : DataW H} {ps : List MemPlace} (hv0 : Value.okWide Tryd.prog w r b0 22 v) (h : DataW.Trod enc Tryd.prog w base spare held 22 v d ps) :
    ∃ (l : List Wt) (ao : Option Addr) (co : Nat), v = .slice ao l.length co ∧ WtsIn w ao l ∧ l.length ≤ co ∧ (l = [] ∨ ∃ el sp, d = .slice el sp ∧ el.length = l.length) ∧ ∀ k ∈ l, k.token.size ≤ Rows.uptoBulk d ∧ k.topic.size ≤ Rows.uptoBulk d := by
  obtain ⟨a0, n0, c0, rfl⟩ := okWide_slice Tryd.underlying22 hv0
  obtain ⟨fuel, hf⟩ := h
  have ce : Tryd.prog.cellsOf 30 = 4 := by kernel_rfl
  have k3 : Tryd.prog.cellsOf 3 = 1 := by kernel_rfl
  have k4 : Tryd.prog.cellsOf 9 = 1 := by kernel_rfl
  rcases open_slice Tryd.underlying22 hf with ⟨h0, _⟩ | ⟨a, len, cap, m, n, D, Pl, h0, _, hl, _, hm, hx, hc⟩
  · exact ⟨[], none, 0, by simpa [Value.cells] using h0, .inl rfl, Nat.le_refl _, .inl rfl, fun k hk => by simp at hk⟩
  · have hv : Value.slice a0 n0 c0 = .slice (some a) len cap := by simpa [Value.cells] using h0
    have hml : len ≤ m := by rw [hm]; split <;> omega
    have each : ∀ i, i < len → ∃ q : Wt, (q.token.size ≤ Rows.uptoBulk (D i) ∧ q.topic.size ≤ Rows.uptoBulk (D i)) ∧ w.cell? (a.add (i * 4)) = some (.int .i64 q.peer) ∧ w.cell? (a.add (i * 4 + 1)) = some (.string q.token) ∧ w.cell? (a.add (i * 4 + 2)) = some (.string q.topic) ∧ w.cell? (a.add (i * 4 + 3)) = some (.int .i64 q.num) := by
      intro i hi
      obtain ⟨cs', h1, h2⟩ := hc i (by omega)
      rw [ce] at h1
      obtain ⟨_, hlen, hcell⟩ := World.cells?_some h1
      obtain ⟨y0, y1, y2, y3, n', hD, _, g0, g1, g2, g3⟩ := Go.Joins.trod_struct4 Tryd.underlying30 h2
      match cs', hlen with
      | [v0, v1, v2, v3], _ =>
        obtain ⟨i0, e0, _⟩ := DataW.trod_int Tryd.underlying3 g0
        obtain ⟨i1, e1, e1', _⟩ := DataW.trod_string Tryd.underlying9 g1
        obtain ⟨i2, e2, e2', _⟩ := DataW.trod_string Tryd.underlying9 g2
        obtain ⟨i3, e3, _⟩ := DataW.trod_int Tryd.underlying3 g3
        have f0 : v0 = .int .i64 i0 := by simpa [k3, k4] using e0
        have f1 : v1 = .string i1 := by simpa [k3, k4] using e1
        have f2 : v2 = .string i2 := by simpa [k3, k4] using e2
        have f3 : v3 = .int .i64 i3 := by simpa [k3, k4] using e3
        subst f0 f1 f2 f3
        have c0 := hcell 0 (by omega)
        have c1 := hcell 1 (by omega)
        have c2 := hcell 2 (by omega)
        have c3 := hcell 3 (by omega)
        rw [add_add] at c0 c1 c2 c3
        have hD1 : D i = .agg [y0.1, y1.1, y2.1, y3.1] := congrArg Prod.fst hD
        have hbk : i1.size ≤ Rows.uptoBulk (D i) ∧ i2.size ≤ Rows.uptoBulk (D i) := by
          rw [hD1, e1', e2']
          have e : i1.data.toList.length = i1.size := by simp
          have e' : i2.data.toList.length = i2.size := by simp
          simp only [Rows.uptoBulk, Rows.uptoBulkAll]
          omega
        exact ⟨⟨i0, i1, i2, i3⟩, hbk, by simpa using c0, by simpa using c1, by simpa using c2, by simpa using c3⟩
    have : Inhabited Wt := ⟨wtZ⟩
    obtain ⟨q, hq⟩ := choose_lt each
    refine ⟨(List.range len).map q, some a, cap, by simpa using hv, ?_, by simpa using hl, .inr ⟨_, _, congrArg Prod.fst hx, by simp⟩, ?_⟩
    rotate_left
    · intro k hk
      obtain ⟨i, hi, rfl⟩ := List.mem_map.1 hk
      have hi' : i < len := List.mem_range.1 hi
      have h1 := (hq i hi').1
      have h2 := bulk_mem (H := H) (List.mem_map.2 ⟨i, hi, rfl⟩ : D i ∈ (List.range len).map D)
      rw [show d = _ from congrArg Prod.fst hx]
      simp only [Rows.uptoBulk]
      omega
    by_cases h1 : len = 0
    · left; rw [h1]; rfl
    · right
      have hc0 := (hq 0 (by omega)).2.1
      rw [Nat.zero_mul] at hc0
      obtain ⟨b, o, rfl⟩ := spot_none hc0
      rw [add_none] at hc0
      refine ⟨b, o, rfl, ?_, fun i hi => ?_⟩
      · rcases Nat.lt_or_ge b w.heap.size with hlt | hge
        · exact hlt
        · simp [World.cell?, Array.getElem?_eq_none hge] at hc0
      · have hi' : i < len := by simpa using hi
        have := (hq i hi').2
        rw [add_none, add_none, add_none, add_none] at this
        simpa [Nat.add_assoc] using this
end
end Go.Proofs.YtbodjfmbdddieafDoor
