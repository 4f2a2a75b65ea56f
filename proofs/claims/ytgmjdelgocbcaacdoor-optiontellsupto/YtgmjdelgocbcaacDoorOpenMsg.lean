/-
  A message, an option among the arguments, opened: their fields, and where the options lie.
-/
import Derived.Test.YtgmjdelgocbcaacDoorMsgMath
import Derived.Test.YtgmjdelgocbcaacDoorOpenBase
namespace Go.Proofs.YtgmjdelgocbcaacDoor
open Go.RowKit Go.ChangeShapes Go.WideShapes Go.Deep

section
variable {H : Type} {enc : TypeId × Value → H} {w : World} {base : Nat} {spare : Nat → Bool} {held : Bool}

theorem open_opts {n : Nat} {v : Value} {x : DataW H × List MemPlace} (h : DataW.trod enc Tryd.prog w base spare held n 22 [v] = some x) :
    ∃ (l : List (Int × ByteArray)) (ao : Option Addr) (co : Nat), v = .slice ao l.length co ∧ OptsIn w ao l := by
  rcases open_slice_pairs Tryd.underlying22 Tryd.underlying31 (by kernel_rfl) rfl rfl (by kernel_rfl) (by kernel_rfl) h with ⟨h0, _⟩ | ⟨a, len, cap, m, k, V0, V1, D0, D1, P0, P1, h0, _, hl, _, hm, _, hc⟩
  · simp only [List.cons.injEq, and_true] at h0
    exact ⟨[], none, 0, h0, .inl rfl⟩
  · simp only [List.cons.injEq, and_true] at h0
    have hml : len ≤ m := by rw [hm]; split <;> omega
    have each : ∀ i, i < len → ∃ q : Int × ByteArray, w.cell? (a.add (i * 2)) = some (.int .i64 q.1) ∧ w.cell? (a.add (i * 2 + 1)) = some (.string q.2) := by
      intro i hi
      obtain ⟨c0, c1, t0, t1⟩ := hc i (by omega)
      obtain ⟨y, hy, _⟩ := DataW.trod_int Tryd.underlying3 t0
      obtain ⟨f, hf, _⟩ := DataW.trod_string Tryd.underlying9 t1
      simp only [List.cons.injEq, and_true] at hf hy
      exact ⟨(y, f), by rw [c0, hy], by rw [c1, hf]⟩
    obtain ⟨q, hq⟩ := choose_lt each
    refine ⟨(List.range len).map q, some a, cap, by simpa using h0, ?_⟩
    by_cases h1 : len = 0
    · left; rw [h1]; rfl
    · right
      have hc0 := (hq 0 (by omega)).1
      rw [Nat.zero_mul] at hc0
      obtain ⟨b, o, rfl⟩ := spot_none hc0
      rw [add_none] at hc0
      refine ⟨b, o, rfl, ?_, fun i hi => ?_⟩
      · rcases Nat.lt_or_ge b w.heap.size with hlt | hge
        · exact hlt
        · simp [World.cell?, Array.getElem?_eq_none hge] at hc0
      · have hi' : i < len := by simpa using hi
        have := hq i hi'
        rw [add_none, add_none] at this
        simpa [Nat.add_assoc] using this

theorem array6 {cs : Array Value} (h : cs.size = 6) : ∃ c0 c1 c2 c3 c4 c5, cs = #[c0, c1, c2, c3, c4, c5] := by
  obtain ⟨l⟩ := cs
  match l, h with
  | [c0, c1, c2, c3, c4, c5], _ => exact ⟨c0, c1, c2, c3, c4, c5, rfl⟩
theorem array2 {cs : Array Value} (h : cs.size = 2) : ∃ c0 c1, cs = #[c0, c1] := by
  obtain ⟨l⟩ := cs
  match l, h with
  | [c0, c1], _ => exact ⟨c0, c1, rfl⟩

set_option maxHeartbeats 2000000 in
set_option maxRecDepth 100000 in
theorem open_mg {r : Reach} {b0 : Nat} {v : Value} {d : DataW H} {ps : List MemPlace} (hv : Value.okWide Tryd.prog w r b0 24 v) (h : DataW.Trod enc Tryd.prog w base spare held 24 v d ps) :
    ∃ (m : Mg) (ao : Option Addr) (co : Nat), v = mgV m ao co ∧ OptsIn w ao m.opts := by
  obtain ⟨cs, rfl, hsz⟩ := okWide_struct Tryd.underlying24 hv
  obtain ⟨c0, c1, c2, c3, c4, c5, rfl⟩ := array6 (hsz.trans (by kernel_rfl))
  obtain ⟨fuel, hf⟩ := h
  obtain ⟨xs, n, _, _, _, hxl, hh⟩ := DataW.trod_struct Tryd.underlying24 hf
  have k3 : Tryd.prog.cellsOf 3 = 1 := by kernel_rfl
  have k9 : Tryd.prog.cellsOf 9 = 1 := by kernel_rfl
  have k22 : Tryd.prog.cellsOf 22 = 1 := by kernel_rfl
  have hxl' : xs.length = 6 := hxl
  obtain ⟨y0, z0⟩ := some_of (by omega) (hh 0 _ rfl)
  obtain ⟨y1, z1⟩ := some_of (by omega) (hh 1 _ rfl)
  obtain ⟨y2, z2⟩ := some_of (by omega) (hh 2 _ rfl)
  obtain ⟨y3, z3⟩ := some_of (by omega) (hh 3 _ rfl)
  obtain ⟨y4, z4⟩ := some_of (by omega) (hh 4 _ rfl)
  obtain ⟨y5, z5⟩ := some_of (by omega) (hh 5 _ rfl)
  simp only [Value.cells] at z0 z1 z2 z3 z4 z5
  obtain ⟨i0, e0, _⟩ := DataW.trod_int Tryd.underlying3 z0
  obtain ⟨i1, e1, _⟩ := DataW.trod_int Tryd.underlying3 z1
  obtain ⟨i2, e2, _⟩ := DataW.trod_int Tryd.underlying3 z2
  obtain ⟨i3, e3, _⟩ := DataW.trod_string Tryd.underlying9 z3
  obtain ⟨l, ao, co, e4, hO⟩ := open_opts z4
  obtain ⟨i5, e5, _⟩ := DataW.trod_string Tryd.underlying9 z5
  have f0 : c0 = .int .i64 i0 := by simpa [k3, k9] using e0
  have f1 : c1 = .int .i64 i1 := by simpa [k3, k9] using e1
  have f2 : c2 = .int .i64 i2 := by simpa [k3, k9] using e2
  have f3 : c3 = .string i3 := by simpa [k3, k9] using e3
  have f5 : c5 = .string i5 := by simpa [k3, k9, k22] using e5
  subst f0 f1 f2 f3 f5 e4
  exact ⟨⟨i0, i1, i2, i3, l, i5⟩, ao, co, rfl, hO⟩

set_option maxRecDepth 100000 in
theorem open_opt {r : Reach} {b0 : Nat} {v : Value} {d : DataW H} {ps : List MemPlace} (hv : Value.okWide Tryd.prog w r b0 31 v) (h : DataW.Trod enc Tryd.prog w base spare held 31 v d ps) :
    ∃ o : Int × ByteArray, v = .agg #[.int .i64 o.1, .string o.2] := by
  obtain ⟨cs, rfl, hsz⟩ := okWide_struct Tryd.underlying31 hv
  obtain ⟨c0, c1, rfl⟩ := array2 (hsz.trans (by kernel_rfl))
  obtain ⟨fuel, hf⟩ := h
  obtain ⟨xs, n, _, _, _, hxl, hh⟩ := DataW.trod_struct Tryd.underlying31 hf
  have k3 : Tryd.prog.cellsOf 3 = 1 := by kernel_rfl
  have k9 : Tryd.prog.cellsOf 9 = 1 := by kernel_rfl
  have hxl' : xs.length = 2 := hxl
  obtain ⟨y0, z0⟩ := some_of (by omega) (hh 0 _ rfl)
  obtain ⟨y1, z1⟩ := some_of (by omega) (hh 1 _ rfl)
  simp only [Value.cells] at z0 z1
  obtain ⟨i0, e0, _⟩ := DataW.trod_int Tryd.underlying3 z0
  obtain ⟨i1, e1, _⟩ := DataW.trod_string Tryd.underlying9 z1
  have f0 : c0 = .int .i64 i0 := by simpa [k3] using e0
  have f1 : c1 = .string i1 := by simpa [k3, k9] using e1
  subst f0 f1
  exact ⟨(i0, i1), rfl⟩
end
end Go.Proofs.YtgmjdelgocbcaacDoor
