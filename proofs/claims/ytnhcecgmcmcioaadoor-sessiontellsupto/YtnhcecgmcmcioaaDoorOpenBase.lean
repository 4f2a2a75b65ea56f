/-
  Small facts on addresses that opening an argument uses.
-/
import Derived.Test.YtnhcecgmcmcioaaDoorRows
import Derived.Deep.SlicePairs
import Derived.ChangeSlices
import Derived.WideShapes
import Derived.ProofKit
import Derived.OpenShut
namespace Go.Proofs.YtnhcecgmcmcioaaDoor
open Go.RowKit Go.ChangeShapes Go.WideShapes Go.Deep

theorem spot_none {w : World} {a : Addr} {v : Value} (h : w.cell? (a.add 0) = some v) : ∃ b o, a = ⟨b, o, none⟩ := by
  obtain ⟨b, o, sp⟩ := a
  cases sp with
  | none => exact ⟨b, o, rfl⟩
  | some x =>
    exfalso
    rw [show (⟨b, o, some x⟩ : Addr).add 0 = ⟨b, o, some x⟩ from if_pos rfl] at h
    unfold World.cell? at h
    split at h <;> simp at h

theorem add_none (b o i : Nat) : (⟨b, o, none⟩ : Addr).add i = ⟨b, o + i, none⟩ := by unfold Addr.add; split <;> simp_all

theorem some_of {α : Type} {x : Option α} {l : List α} {i : Nat} (hl : i < l.length) (h : x = l[i]?) : ∃ y, x = some y := ⟨l[i], by rw [h]; exact List.getElem?_eq_getElem hl⟩

end Go.Proofs.YtnhcecgmcmcioaaDoor
/-
  The bulk of what lies among others.
-/
namespace Go.Proofs.YtnhcecgmcmcioaaDoor
open Go.RowKit Go.ChangeShapes Go.WideShapes Go.Deep

theorem bulk_mem {H : Type} {x : DataW H} : ∀ {l : List (DataW H)}, x ∈ l → Rows.uptoBulk x ≤ Rows.uptoBulkAll l
  | [], h => by simp at h
  | y :: l, h => by
    simp only [Rows.uptoBulkAll]
    rcases List.mem_cons.1 h with rfl | h
    · omega
    · have := bulk_mem h
      omega

end Go.Proofs.YtnhcecgmcmcioaaDoor
