/-
  Rows of texts and rows of blocks among the arguments, opened: where they lie.
-/
import Derived.Test.YtcldjoklkbbbgadBlkMath
import Derived.Test.YtcldjoklkbbbgadOpenBase
import Derived.Deep.Strs
namespace Go.Proofs.Ytcldjoklkbbbgad
open Go.RowKit Go.ChangeShapes Go.WideShapes Go.Deep

section
variable {H : Type} {enc : TypeId × Value → H} {w : World} {base : Nat} {spare : Nat → Bool} {held : Bool}

theorem open_strl {r : Reach} {b0 : Nat} {v : Value} {d : DataW H} {ps : List MemPlace} (hv0 : Value.okWide Try.prog w r b0 30 v) (h : DataW.Trod enc Try.prog w base spare held 30 v d ps) :
    ∃ (l : List ByteArray) (ao : Option Addr) (co : Nat), v = .slice ao l.length co ∧ StrsIn w ao l ∧ (∀ s ∈ l, s.size ≤ maxLen) ∧ (l = [] ∨ ∃ el sp, d = .slice el sp ∧ el.length = l.length) := by
  obtain ⟨a0, n0, c0, rfl⟩ := okWide_slice Try.underlying30 hv0
  obtain ⟨fuel, hf⟩ := h
  rcases open_strs Try.underlying30 Try.underlying9 (by kernel_rfl) hf with ⟨h0, _⟩ | ⟨a, len, cap, m, Sx, h0, _, hl, _, hm, hx, hc⟩
  · exact ⟨[], none, 0, by simpa [Value.cells] using h0, .inl rfl, by simp, .inl rfl⟩
  · have hv : Value.slice a0 n0 c0 = .slice (some a) len cap := by simpa [Value.cells] using h0
    have hml : len ≤ m := by rw [hm]; split <;> omega
    refine ⟨(List.range len).map Sx, some a, cap, by simpa using hv, ?_, ?_, .inr ⟨_, _, congrArg Prod.fst hx, by simp⟩⟩
    · by_cases h1 : len = 0
      · left; rw [h1]; rfl
      · right
        have hc0 := (hc 0 (by omega)).1
        obtain ⟨b, o, rfl⟩ := spot_none hc0
        rw [add_none] at hc0
        refine ⟨b, o, rfl, ?_, fun i hi => ?_⟩
        · rcases Nat.lt_or_ge b w.heap.size with hlt | hge
          · exact hlt
          · simp [World.cell?, Array.getElem?_eq_none hge] at hc0
        · have hi' : i < len := by simpa using hi
          have := (hc i (by omega)).1
          rw [add_none] at this
          simpa using this
    · intro s hs
      obtain ⟨i, hi, rfl⟩ := List.mem_map.1 hs
      exact (hc i (by have := List.mem_range.1 hi; omega)).2

theorem open_bkl {r : Reach} {b0 : Nat} {v : Value} {d : DataW H} {ps : List MemPlace} (hv0 : Value.okWide Try.prog w r b0 31 v) (h : DataW.Trod enc Try.prog w base spare held 31 v d ps) :
    ∃ (l : List Bk) (ao : Option Addr) (co : Nat), v = .slice ao l.length co ∧ BksIn w ao l ∧ (l = [] ∨ ∃ el sp, d = .slice el sp ∧ el.length = l.length) := by
  obtain ⟨a0, n0, c0, rfl⟩ := okWide_slice Try.underlying31 hv0
  obtain ⟨fuel, hf⟩ := h
  have ce : Try.prog.cellsOf 25 = 3 := by kernel_rfl
  have k3 : Try.prog.cellsOf 3 = 1 := by kernel_rfl
  have k4 : Try.prog.cellsOf 4 = 1 := by kernel_rfl
  rcases open_slice Try.underlying31 hf with ⟨h0, _⟩ | ⟨a, len, cap, m, n, D, Pl, h0, _, hl, _, hm, hx, hc⟩
  · exact ⟨[], none, 0, by simpa [Value.cells] using h0, .inl rfl, .inl rfl⟩
  · have hv : Value.slice a0 n0 c0 = .slice (some a) len cap := by simpa [Value.cells] using h0
    have hml : len ≤ m := by rw [hm]; split <;> omega
    have each : ∀ i, i < len → ∃ q : Bk, w.cell? (a.add (i * 3)) = some (.int .i64 q.num) ∧ w.cell? (a.add (i * 3 + 1)) = some (.bool q.more) ∧ w.cell? (a.add (i * 3 + 2)) = some (.int .i64 q.size) := by
      intro i hi
      obtain ⟨cs', h1, h2⟩ := hc i (by omega)
      rw [ce] at h1
      obtain ⟨_, hlen, hcell⟩ := World.cells?_some h1
      obtain ⟨y0, y1, y2, n', _, _, g0, g1, g2⟩ := trod_struct3 Try.underlying25 h2
      match cs', hlen with
      | [v0, v1, v2], _ =>
        obtain ⟨i0, e0, _⟩ := DataW.trod_int Try.underlying3 g0
        obtain ⟨i1, e1, _⟩ := DataW.trod_bool Try.underlying4 g1
        obtain ⟨i2, e2, _⟩ := DataW.trod_int Try.underlying3 g2
        have f0 : v0 = .int .i64 i0 := by simpa [k3, k4] using e0
        have f1 : v1 = .bool i1 := by simpa [k3, k4] using e1
        have f2 : v2 = .int .i64 i2 := by simpa [k3, k4] using e2
        subst f0 f1 f2
        have c0 := hcell 0 (by omega)
        have c1 := hcell 1 (by omega)
        have c2 := hcell 2 (by omega)
        rw [add_add] at c0 c1 c2
        exact ⟨⟨i0, i1, i2⟩, by simpa using c0, by simpa using c1, by simpa using c2⟩
    have : Inhabited Bk := ⟨bkZ⟩
    obtain ⟨q, hq⟩ := choose_lt each
    refine ⟨(List.range len).map q, some a, cap, by simpa using hv, ?_, .inr ⟨_, _, congrArg Prod.fst hx, by simp⟩⟩
    by_cases h1 : len = 0
    · left; rw [h1]; rfl
    · right
      have hc0 := (hq 0 (by omega)).1
      rw [Nat.zero_mul] at hc0
      obtain ⟨b, o, rfl⟩ := spot_none hc0
      rw [add_none] at hc0
      refine ⟨b, o, rfl, ?_, fun i hi => ?_⟩
      · rcases Nat.lt_or_ge b w.heap.size with hlt | hge
        · exact hlt
        · simp [World.cell?, Array.getElem?_eq_none hge] at hc0
      · have hi' : i < len := by simpa using hi
        have := hq i hi'
        rw [add_none, add_none, add_none] at this
        simpa [Nat.add_assoc] using this
end
end Go.Proofs.Ytcldjoklkbbbgad
