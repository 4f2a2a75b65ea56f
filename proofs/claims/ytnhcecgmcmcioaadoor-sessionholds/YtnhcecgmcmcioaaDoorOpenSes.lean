/-
  Rows of texts, rows of numbers, sessions among the arguments, opened: where they lie.
-/
import Derived.Test.YtnhcecgmcmcioaaDoorSesMath
import Derived.Test.YtnhcecgmcmcioaaDoorBlkStrs
import Derived.Test.YtnhcecgmcmcioaaDoorOpenBase
import Derived.Deep.Strs
import Derived.Lib.SmallJoins
namespace Go.Proofs.YtnhcecgmcmcioaaDoor
open Go.RowKit Go.ChangeShapes Go.WideShapes Go.Deep

section
variable {H : Type} {enc : TypeId × Value → H} {w : World} {base : Nat} {spare : Nat → Bool} {held : Bool}

set_option maxRecDepth 100000 in
theorem open_txl {r : Reach} {b0 : Nat} {v : Value} {d : DataW H} {ps : List MemPlace} (hv0 : Value.okWide Tryd.prog w r b0 43 v) (h : DataW.Trod enc Tryd.prog w base spare held 43 v d ps) :
    ∃ (l : List ByteArray) (ao : Option Addr) (co : Nat), v = .slice ao l.length co ∧ StrsIn w ao l := by
  obtain ⟨a0, n0, c0, rfl⟩ := okWide_slice Tryd.underlying43 hv0
  obtain ⟨fuel, hf⟩ := h
  rcases open_strs Tryd.underlying43 Tryd.underlying9 (by kernel_rfl) hf with ⟨h0, _⟩ | ⟨a, len, cap, m, Sx, h0, _, hl, _, hm, hx, hc⟩
  · exact ⟨[], none, 0, by simpa [Value.cells] using h0, .inl rfl⟩
  · have hv : Value.slice a0 n0 c0 = .slice (some a) len cap := by simpa [Value.cells] using h0
    have hml : len ≤ m := by rw [hm]; split <;> omega
    refine ⟨(List.range len).map Sx, some a, cap, by simpa using hv, ?_⟩
    by_cases h1 : len = 0
    · left; rw [h1]; rfl
    · right
      have hc0 := (hc 0 (by omega)).1
      obtain ⟨b, o, rfl⟩ := spot_none hc0
      rw [add_none] at hc0
      refine ⟨b, o, rfl, ?_, fun i hi => ?_⟩
      · rcases Nat.lt_or_ge b w.heap.size with hlt | hge
        · exact hlt
        · simp [World.cell?, Array.getElem?_eq_none hge] at hc0
      · have hi' : i < len := by simpa using hi
        have := (hc i (by omega)).1
        rw [add_none] at this
        simpa using this
set_option maxRecDepth 100000 in
theorem open_il {r : Reach} {b0 : Nat} {v : Value} {d : DataW H} {ps : List MemPlace} (hv0 : Value.okWide Tryd.prog w r b0 44 v) (h : DataW.Trod enc Tryd.prog w base spare held 44 v d ps) :
    ∃ (l : List Int) (ao : Option Addr) (co : Nat), v = .slice ao l.length co ∧ IntsIn w ao l := by
  obtain ⟨a0, n0, c0, rfl⟩ := okWide_slice Tryd.underlying44 hv0
  obtain ⟨fuel, hf⟩ := h
  rcases open_ints Tryd.underlying44 Tryd.underlying3 (by kernel_rfl) hf with ⟨h0, _⟩ | ⟨a, len, cap, zs, h0, _, hl, _, hz, _, hc, _⟩
  · exact ⟨[], none, 0, by simpa [Value.cells] using h0, .inl rfl⟩
  · have hv : Value.slice a0 n0 c0 = .slice (some a) len cap := by simpa [Value.cells] using h0
    have hzl : len ≤ zs.length := by rw [hz]; split <;> omega
    have hlen : (zs.take len).length = len := by rw [List.length_take]; omega
    refine ⟨zs.take len, some a, cap, by rw [hlen]; exact hv, ?_⟩
    by_cases h1 : len = 0
    · left; rw [h1]; rfl
    · right
      have hc0 := hc 0 (by omega)
      obtain ⟨b, o, rfl⟩ := spot_none hc0
      rw [add_none] at hc0
      refine ⟨b, o, rfl, ?_, fun i hi => ?_⟩
      · rcases Nat.lt_or_ge b w.heap.size with hlt | hge
        · exact hlt
        · simp [World.cell?, Array.getElem?_eq_none hge] at hc0
      · rw [hlen] at hi
        have := hc i (by omega)
        rw [add_none] at this
        rw [this]
        simp [List.getD_eq_getElem?_getD, List.getElem?_eq_getElem (show i < zs.length by omega)]
end
end Go.Proofs.YtnhcecgmcmcioaaDoor
