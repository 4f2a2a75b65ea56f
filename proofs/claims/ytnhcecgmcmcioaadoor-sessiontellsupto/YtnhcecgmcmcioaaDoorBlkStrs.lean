/-
  A row of texts that lies in memory (for seats that have no blocks; where BlkMath is, it says the same).
-/
import Derived.Test.YtnhcecgmcmcioaaDoorWireMath
import Derived.PlainAid
namespace Go.Proofs.YtnhcecgmcmcioaaDoor
open Go.RowKit Go.PlainAid

/-- texts lie there -/
def StrsIn (w : World) (ao : Option Addr) (l : List ByteArray) : Prop :=
  l = [] ∨ ∃ b o, ao = some ⟨b, o, none⟩ ∧ b < w.heap.size ∧ ∀ i (h : i < l.length), w.cell? ⟨b, o + i, none⟩ = some (.string l[i])
theorem StrsIn.below {w w' : World} {ao : Option Addr} {l : List ByteArray} (h : StrsIn w ao l) (hb : Below w.heap.size w w') : StrsIn w' ao l := by
  rcases h with h | ⟨b, o, ha, hl, hc⟩
  · exact .inl h
  · exact .inr ⟨b, o, ha, Nat.lt_of_lt_of_le hl hb.size, fun i hi => (hb.cell (p := ⟨b, _, none⟩) hl).trans (hc i hi)⟩
theorem strs_here {w : World} {ao : Option Addr} {l : List ByteArray} {k : Nat} (h : StrsIn w ao l) (hlt : k < l.length) : ∃ b o, ao = some ⟨b, o, none⟩ ∧ b < w.heap.size ∧ ∀ i (h : i < l.length), w.cell? ⟨b, o + i, none⟩ = some (.string l[i]) := by
  rcases h with rfl | h
  · simp at hlt
  · exact h

end Go.Proofs.YtnhcecgmcmcioaaDoor
