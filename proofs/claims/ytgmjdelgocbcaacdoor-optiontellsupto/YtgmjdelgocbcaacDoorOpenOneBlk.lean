/-
  A block that comes in, as a value (fields).
-/
import Derived.Test.YtgmjdelgocbcaacDoorOpenMsg
namespace Go.Proofs.YtgmjdelgocbcaacDoor
open Go.ChangeShapes Go.WideShapes Go.ChangeAt Go.RowKit
section
variable {H : Type} {enc : TypeId × Value → H} {w : World} {base : Nat} {spare : Nat → Bool} {held : Bool}
theorem array3 {cs : Array Value} (h : cs.size = 3) : ∃ c0 c1 c2, cs = #[c0, c1, c2] := by
  obtain ⟨l⟩ := cs
  match l, h with
  | [a, b, c], _ => exact ⟨a, b, c, rfl⟩
set_option maxRecDepth 100000 in
theorem open_blk {r : Reach} {b0 : Nat} {v : Value} {d : DataW H} {ps : List MemPlace} (hv : Value.okWide Tryd.prog w r b0 34 v) (h : DataW.Trod enc Tryd.prog w base spare held 34 v d ps) :
    ∃ (n : Int) (f : Bool) (z : Int), v = .agg #[.int .i64 n, .bool f, .int .i64 z] := by
  obtain ⟨cs, rfl, hsz⟩ := okWide_struct Tryd.underlying34 hv
  obtain ⟨c0, c1, c2, rfl⟩ := array3 (hsz.trans (by kernel_rfl))
  obtain ⟨fuel, hf⟩ := h
  obtain ⟨xs, n, _, _, _, hxl, hh⟩ := DataW.trod_struct Tryd.underlying34 hf
  have k3 : Tryd.prog.cellsOf 3 = 1 := by kernel_rfl
  have k4 : Tryd.prog.cellsOf 4 = 1 := by kernel_rfl
  have hxl' : xs.length = 3 := hxl
  obtain ⟨y0, z0⟩ := some_of (by omega) (hh 0 _ rfl)
  obtain ⟨y1, z1⟩ := some_of (by omega) (hh 1 _ rfl)
  obtain ⟨y2, z2⟩ := some_of (by omega) (hh 2 _ rfl)
  simp only [Value.cells] at z0 z1 z2
  obtain ⟨i0, e0, _⟩ := DataW.trod_int Tryd.underlying3 z0
  obtain ⟨i1, e1, _⟩ := DataW.trod_bool Tryd.underlying4 z1
  obtain ⟨i2, e2, _⟩ := DataW.trod_int Tryd.underlying3 z2
  have f0 : c0 = .int .i64 i0 := by simpa [k3] using e0
  have f1 : c1 = .bool i1 := by simpa [k3, k4] using e1
  have f2 : c2 = .int .i64 i2 := by simpa [k3, k4] using e2
  subst f0 f1 f2
  exact ⟨i0, i1, i2, rfl⟩
end
end Go.Proofs.YtgmjdelgocbcaacDoor
