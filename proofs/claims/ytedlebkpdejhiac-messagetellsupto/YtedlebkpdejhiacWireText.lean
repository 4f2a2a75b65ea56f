/-
  wire.Text, wire.GetText, dragomanref.TextOf and GetTextOf: what they answer.
-/
import Derived.Test.YtedlebkpdejhiacWireGets
import Derived.Test.YtedlebkpdejhiacWireRef
import Derived.Test.YtedlebkpdejhiacShelf
import Derived.WalkSpells
namespace Go.Proofs.Ytedlebkpdejhiac
open Go.RowKit

/-- a text behind two bytes that tell how many it has -/
def textS (t : ByteArray) : ByteArray := strOfNums [(t.size : Int) / 256 % 256, (t.size : Int) % 256] ++ t

theorem ext_ext (s : ByteArray) (i n : Nat) (h : i + n ≤ s.size) : (s.extract i s.size).extract 0 n = s.extract i (i + n) := by
  rw [ByteArray.extract_extract]; congr 1; omega

theorem clone_any (s : ByteArray) (w : World) (h : s.size ≤ 281474976710656) :
    Calls Try.prog 40 #[.string s] w fun e w' => e = .returned (.string s) ∧ Below w.heap.size w w' := by
  go_enter Try.func40, Try.ntmps40
  go_wp2_with (go_at_call 43; refine (Try.stringslite_Clone _ _ h).mono ?_; rintro e w1 ⟨rfl, hb⟩)
  go_ret
  exact ⟨rfl, hb⟩

end Go.Proofs.Ytedlebkpdejhiac
