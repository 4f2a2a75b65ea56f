/-
  packet.withoutNamed: what it answers (kinds 1 to 4).
-/
import Derived.Test.YtaohmbjiljgibabDoorPacketMathJoined
namespace Go.Proofs.YtaohmbjiljgibabDoor
open Go.RowKit Go.PlainAid

set_option maxHeartbeats 2000000 in
theorem withoutNamed_1 (p : Pk) (aa ac : Option Addr) (ca cc : Nat) (w : World) (h : p.kind = 1) :
    Calls Tryd.prog 41 #[pkV p aa ca ac cc] w fun e w' => e = .returned (pkV (wn p) aa ca ac cc) ∧ Below w.heap.size w w' := by
  obtain ⟨k, d, r, c, s, q, i, kp, cd, cl, tp, pl, sa, cs⟩ := p
  simp only at h
  subst h
  simp only [pkV, wn]
  go_enter Tryd.func41, Tryd.ntmps41
  go_wp2
  refine bodyPost_ret (v := pkV ⟨1, d, r, false, s, q, i, 0, cd, ⟨#[]⟩, tp, pl, sa, cs⟩ aa ca ac cc) (by simp [results, Tryd.results41, go_sem, pkV]) rfl ⟨rfl, ?_⟩
  repeat (first | exact Below.refl _ _ | refine Below.setCell ?_ (by first | simp | (simp; omega)) _ | refine Below.alloc ?_ (by first | simp | (simp; omega)) _)

set_option maxHeartbeats 2000000 in
theorem withoutNamed_2 (p : Pk) (aa ac : Option Addr) (ca cc : Nat) (w : World) (h : p.kind = 2) :
    Calls Tryd.prog 41 #[pkV p aa ca ac cc] w fun e w' => e = .returned (pkV (wn p) aa ca ac cc) ∧ Below w.heap.size w w' := by
  obtain ⟨k, d, r, c, s, q, i, kp, cd, cl, tp, pl, sa, cs⟩ := p
  simp only at h
  subst h
  simp only [pkV, wn]
  go_enter Tryd.func41, Tryd.ntmps41
  go_wp2
  refine bodyPost_ret (v := pkV ⟨2, d, r, c, false, q, i, kp, 0, cl, tp, pl, sa, cs⟩ aa ca ac cc) (by simp [results, Tryd.results41, go_sem, pkV]) rfl ⟨rfl, ?_⟩
  repeat (first | exact Below.refl _ _ | refine Below.setCell ?_ (by first | simp | (simp; omega)) _ | refine Below.alloc ?_ (by first | simp | (simp; omega)) _)

set_option maxHeartbeats 2000000 in
theorem withoutNamed_3 (p : Pk) (aa ac : Option Addr) (ca cc : Nat) (w : World) (h : p.kind = 3) :
    Calls Tryd.prog 41 #[pkV p aa ca ac cc] w fun e w' => e = .returned (pkV (wn p) aa ca ac cc) ∧ Below w.heap.size w w' := by
  obtain ⟨k, d, r, c, s, q, i, kp, cd, cl, tp, pl, sa, cs⟩ := p
  simp only at h
  subst h
  simp only [pkV, wn]
  go_enter Tryd.func41, Tryd.ntmps41
  go_wp2
  refine bodyPost_ret (v := pkV ⟨3, false, false, c, s, 0, 0, kp, cd, cl, ⟨#[]⟩, ⟨#[]⟩, sa, cs⟩ aa ca ac cc) (by simp [results, Tryd.results41, go_sem, pkV]) rfl ⟨rfl, ?_⟩
  repeat (first | exact Below.refl _ _ | refine Below.setCell ?_ (by first | simp | (simp; omega)) _ | refine Below.alloc ?_ (by first | simp | (simp; omega)) _)

set_option maxHeartbeats 2000000 in
theorem withoutNamed_4 (p : Pk) (aa ac : Option Addr) (ca cc : Nat) (w : World) (h : p.kind = 4) :
    Calls Tryd.prog 41 #[pkV p aa ca ac cc] w fun e w' => e = .returned (pkV (wn p) aa ca ac cc) ∧ Below w.heap.size w w' := by
  obtain ⟨k, d, r, c, s, q, i, kp, cd, cl, tp, pl, sa, cs⟩ := p
  simp only at h
  subst h
  simp only [pkV, wn]
  go_enter Tryd.func41, Tryd.ntmps41
  go_wp2
  refine bodyPost_ret (v := pkV ⟨4, d, r, c, s, q, 0, kp, cd, cl, tp, pl, sa, cs⟩ aa ca ac cc) (by simp [results, Tryd.results41, go_sem, pkV]) rfl ⟨rfl, ?_⟩
  repeat (first | exact Below.refl _ _ | refine Below.setCell ?_ (by first | simp | (simp; omega)) _ | refine Below.alloc ?_ (by first | simp | (simp; omega)) _)
end Go.Proofs.YtaohmbjiljgibabDoor
