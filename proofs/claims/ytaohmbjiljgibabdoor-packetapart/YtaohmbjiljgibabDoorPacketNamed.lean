/-
  packet.withoutNamed: what it answers.
-/
import Derived.Test.YtaohmbjiljgibabDoorPacketNamedA
import Derived.Test.YtaohmbjiljgibabDoorPacketNamedB
namespace Go.Proofs.YtaohmbjiljgibabDoor
open Go.RowKit Go.PlainAid

theorem withoutNamed_any (p : Pk) (aa ac : Option Addr) (ca cc : Nat) (w : World) :
    Calls Tryd.prog 41 #[pkV p aa ca ac cc] w fun e w' => ∃ aa' ca' ac' cc', e = .returned (pkV (wn p) aa' ca' ac' cc') ∧ Below w.heap.size w w' := by
  by_cases h : p.kind = 1 ∨ p.kind = 2 ∨ p.kind = 3 ∨ p.kind = 4 ∨ p.kind = 8 ∨ p.kind = 9 ∨ p.kind = 10 ∨ p.kind = 11
  · rcases h with h | h | h | h | h | h | h | h
    · exact (withoutNamed_1 p aa ac ca cc w h).mono fun e w' x => ⟨_, _, _, _, x⟩
    · exact (withoutNamed_2 p aa ac ca cc w h).mono fun e w' x => ⟨_, _, _, _, x⟩
    · exact (withoutNamed_3 p aa ac ca cc w h).mono fun e w' x => ⟨_, _, _, _, x⟩
    · exact (withoutNamed_4 p aa ac ca cc w h).mono fun e w' x => ⟨_, _, _, _, x⟩
    · exact (withoutNamed_8 p aa ac ca cc w h).mono fun e w' x => ⟨_, _, _, _, x⟩
    · exact (withoutNamed_9 p aa ac ca cc w h).mono fun e w' x => ⟨_, _, _, _, x⟩
    · exact (withoutNamed_10 p aa ac ca cc w h).mono fun e w' x => ⟨_, _, _, _, x⟩
    · exact (withoutNamed_11 p aa ac ca cc w h).mono fun e w' x => ⟨_, _, _, _, x⟩
  · exact (withoutNamed_no p aa ac ca cc w h).mono fun e w' x => ⟨_, _, _, _, x⟩
end Go.Proofs.YtaohmbjiljgibabDoor
