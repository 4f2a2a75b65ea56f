/-
  packet.withoutNamed: what it answers (kinds 1 to 4).
-/
import Derived.Test.YtnhcecgmcmcioaaDoorPacketBase
namespace Go.Proofs.YtnhcecgmcmcioaaDoor
open Go.RowKit Go.PlainAid

set_option maxHeartbeats 2000000 in
theorem withoutNamed_1 (p : Pk) (aa ac : Option Addr) (ca cc : Nat) (w : World) (h : p.kind = 1) :
    Calls Tryd.prog 60 #[pkV p aa ca ac cc] w fun e w' => e = .returned (pkV (wn p) aa ca ac cc) ∧ Below w.heap.size w w' := by
  obtain ⟨k, d, r, c, s, q, i, kp, cd, cl, tp, pl, sa, cs⟩ := p
  simp only at h
  subst h
  simp only [pkV, wn]
  go_enter Tryd.func60, Tryd.ntmps60
  go_wp2
  refine bodyPost_ret (v := pkV ⟨1, d, r, false, s, q, i, 0, cd, ⟨#[]⟩, tp, pl, sa, cs⟩ aa ca ac cc) (by simp [results, Tryd.results60, go_sem, pkV]) rfl ⟨rfl, ?_⟩
  repeat (first | exact Below.refl _ _ | refine Below.setCell ?_ (by first | simp | (simp; omega)) _ | refine Below.alloc ?_ (by first | simp | (simp; omega)) _)

set_option maxHeartbeats 2000000 in
theorem withoutNamed_2 (p : Pk) (aa ac : Option Addr) (ca cc : Nat) (w : World) (h : p.kind = 2) :
    Calls Tryd.prog 60 #[pkV p aa ca ac cc] w fun e w' => e = .returned (pkV (wn p) aa ca ac cc) ∧ Below w.heap.size w w' := by
  obtain ⟨k, d, r, c, s, q, i, kp, cd, cl, tp, pl, sa, cs⟩ := p
  simp only at h
  subst h
  simp only [pkV, wn]
  go_enter Tryd.func60, Tryd.ntmps60
  go_wp2
  refine bodyPost_ret (v := pkV ⟨2, d, r, c, false, q, i, kp, 0, cl, tp, pl, sa, cs⟩ aa ca ac cc) (by simp [results, Tryd.results60, go_sem, pkV]) rfl ⟨rfl, ?_⟩
  repeat (first | exact Below.refl _ _ | refine Below.setCell ?_ (by first | simp | (simp; omega)) _ | refine Below.alloc ?_ (by first | simp | (simp; omega)) _)

set_option maxHeartbeats 2000000 in
theorem withoutNamed_3 (p : Pk) (aa ac : Option Addr) (ca cc : Nat) (w : World) (h : p.kind = 3) :
    Calls Tryd.prog 60 #[pkV p aa ca ac cc] w fun e w' => e = .returned (pkV (wn p) aa ca ac cc) ∧ Below w.heap.size w w' := by
  obtain ⟨k, d, r, c, s, q, i, kp, cd, cl, tp, pl, sa, cs⟩ := p
  simp only at h
  subst h
  simp only [pkV, wn]
  go_enter Tryd.func60, Tryd.ntmps60
  go_wp2
  refine bodyPost_ret (v := pkV ⟨3, false, false, c, s, 0, 0, kp, cd, cl, ⟨#[]⟩, ⟨#[]⟩, sa, cs⟩ aa ca ac cc) (by simp [results, Tryd.results60, go_sem, pkV]) rfl ⟨rfl, ?_⟩
  repeat (first | exact Below.refl _ _ | refine Below.setCell ?_ (by first | simp | (simp; omega)) _ | refine Below.alloc ?_ (by first | simp | (simp; omega)) _)

set_option maxHeartbeats 2000000 in
theorem withoutNamed_4 (p : Pk) (aa ac : Option Addr) (ca cc : Nat) (w : World) (h : p.kind = 4) :
    Calls Tryd.prog 60 #[pkV p aa ca ac cc] w fun e w' => e = .returned (pkV (wn p) aa ca ac cc) ∧ Below w.heap.size w w' := by
  obtain ⟨k, d, r, c, s, q, i, kp, cd, cl, tp, pl, sa, cs⟩ := p
  simp only at h
  subst h
  simp only [pkV, wn]
  go_enter Tryd.func60, Tryd.ntmps60
  go_wp2
  refine bodyPost_ret (v := pkV ⟨4, d, r, c, s, q, 0, kp, cd, cl, tp, pl, sa, cs⟩ aa ca ac cc) (by simp [results, Tryd.results60, go_sem, pkV]) rfl ⟨rfl, ?_⟩
  repeat (first | exact Below.refl _ _ | refine Below.setCell ?_ (by first | simp | (simp; omega)) _ | refine Below.alloc ?_ (by first | simp | (simp; omega)) _)
end Go.Proofs.YtnhcecgmcmcioaaDoor
/-
  packet.withoutNamed: what it answers (kinds 8 to 11, and all others).
-/
namespace Go.Proofs.YtnhcecgmcmcioaaDoor
open Go.RowKit Go.PlainAid

set_option maxHeartbeats 2000000 in
theorem withoutNamed_8 (p : Pk) (aa ac : Option Addr) (ca cc : Nat) (w : World) (h : p.kind = 8) :
    Calls Tryd.prog 60 #[pkV p aa ca ac cc] w fun e w' => e = .returned (pkV (wn p) none 0 ac cc) ∧ Below w.heap.size w w' := by
  obtain ⟨k, d, r, c, s, q, i, kp, cd, cl, tp, pl, sa, cs⟩ := p
  simp only at h
  subst h
  simp only [pkV, wn]
  go_enter Tryd.func60, Tryd.ntmps60
  go_wp2
  refine bodyPost_ret (v := pkV ⟨8, d, r, c, s, q, 0, kp, cd, cl, tp, pl, [], cs⟩ none 0 ac cc) (by simp [results, Tryd.results60, go_sem, pkV]) rfl ⟨rfl, ?_⟩
  repeat (first | exact Below.refl _ _ | refine Below.setCell ?_ (by first | simp | (simp; omega)) _ | refine Below.alloc ?_ (by first | simp | (simp; omega)) _)

set_option maxHeartbeats 2000000 in
theorem withoutNamed_9 (p : Pk) (aa ac : Option Addr) (ca cc : Nat) (w : World) (h : p.kind = 9) :
    Calls Tryd.prog 60 #[pkV p aa ca ac cc] w fun e w' => e = .returned (pkV (wn p) aa ca none 0) ∧ Below w.heap.size w w' := by
  obtain ⟨k, d, r, c, s, q, i, kp, cd, cl, tp, pl, sa, cs⟩ := p
  simp only at h
  subst h
  simp only [pkV, wn]
  go_enter Tryd.func60, Tryd.ntmps60
  go_wp2
  refine bodyPost_ret (v := pkV ⟨9, d, r, c, s, q, 0, kp, cd, cl, tp, pl, sa, []⟩ aa ca none 0) (by simp [results, Tryd.results60, go_sem, pkV]) rfl ⟨rfl, ?_⟩
  repeat (first | exact Below.refl _ _ | refine Below.setCell ?_ (by first | simp | (simp; omega)) _ | refine Below.alloc ?_ (by first | simp | (simp; omega)) _)

set_option maxHeartbeats 2000000 in
theorem withoutNamed_10 (p : Pk) (aa ac : Option Addr) (ca cc : Nat) (w : World) (h : p.kind = 10) :
    Calls Tryd.prog 60 #[pkV p aa ca ac cc] w fun e w' => e = .returned (pkV (wn p) none 0 ac cc) ∧ Below w.heap.size w w' := by
  obtain ⟨k, d, r, c, s, q, i, kp, cd, cl, tp, pl, sa, cs⟩ := p
  simp only at h
  subst h
  simp only [pkV, wn]
  go_enter Tryd.func60, Tryd.ntmps60
  go_wp2
  refine bodyPost_ret (v := pkV ⟨10, d, r, c, s, q, 0, kp, cd, cl, tp, pl, [], cs⟩ none 0 ac cc) (by simp [results, Tryd.results60, go_sem, pkV]) rfl ⟨rfl, ?_⟩
  repeat (first | exact Below.refl _ _ | refine Below.setCell ?_ (by first | simp | (simp; omega)) _ | refine Below.alloc ?_ (by first | simp | (simp; omega)) _)

set_option maxHeartbeats 2000000 in
theorem withoutNamed_11 (p : Pk) (aa ac : Option Addr) (ca cc : Nat) (w : World) (h : p.kind = 11) :
    Calls Tryd.prog 60 #[pkV p aa ca ac cc] w fun e w' => e = .returned (pkV (wn p) aa ca ac cc) ∧ Below w.heap.size w w' := by
  obtain ⟨k, d, r, c, s, q, i, kp, cd, cl, tp, pl, sa, cs⟩ := p
  simp only at h
  subst h
  simp only [pkV, wn]
  go_enter Tryd.func60, Tryd.ntmps60
  go_wp2
  refine bodyPost_ret (v := pkV ⟨11, d, r, c, s, q, 0, kp, cd, cl, tp, pl, sa, cs⟩ aa ca ac cc) (by simp [results, Tryd.results60, go_sem, pkV]) rfl ⟨rfl, ?_⟩
  repeat (first | exact Below.refl _ _ | refine Below.setCell ?_ (by first | simp | (simp; omega)) _ | refine Below.alloc ?_ (by first | simp | (simp; omega)) _)
set_option maxHeartbeats 2000000 in
theorem withoutNamed_no (p : Pk) (aa ac : Option Addr) (ca cc : Nat) (w : World) (h : ¬ (p.kind = 1 ∨ p.kind = 2 ∨ p.kind = 3 ∨ p.kind = 4 ∨ p.kind = 8 ∨ p.kind = 9 ∨ p.kind = 10 ∨ p.kind = 11)) :
    Calls Tryd.prog 60 #[pkV p aa ca ac cc] w fun e w' => e = .returned (pkV (wn p) aa ca ac cc) ∧ Below w.heap.size w w' := by
  have hw : wn p = p := by
    unfold wn
    rw [if_neg (by omega), if_neg (by omega), if_neg (by omega), if_neg (by omega), if_neg (by omega), if_neg (by omega)]
  rw [hw]
  clear hw
  obtain ⟨k, d, r, c, s, q, i, kp, cd, cl, tp, pl, sa, cs⟩ := p
  simp only at h
  have h1 : (k == 1) = false := by simp; omega
  have h2 : (k == 2) = false := by simp; omega
  have h3 : (k == 3) = false := by simp; omega
  have h4 : (k == 4) = false := by simp; omega
  have h8 : (k == 8) = false := by simp; omega
  have h9 : (k == 9) = false := by simp; omega
  have h10 : (k == 10) = false := by simp; omega
  have h11 : (k == 11) = false := by simp; omega
  clear h
  simp only [pkV]
  go_enter Tryd.func60, Tryd.ntmps60
  go_wp2
  refine bodyPost_ret (v := pkV ⟨k, d, r, c, s, q, i, kp, cd, cl, tp, pl, sa, cs⟩ aa ca ac cc) (by simp [results, Tryd.results60, go_sem, pkV]) rfl ⟨rfl, ?_⟩
  repeat (first | exact Below.refl _ _ | refine Below.setCell ?_ (by first | simp | (simp; omega)) _ | refine Below.alloc ?_ (by first | simp | (simp; omega)) _)
end Go.Proofs.YtnhcecgmcmcioaaDoor
/-
  packet.withoutNamed: what it answers.
-/
namespace Go.Proofs.YtnhcecgmcmcioaaDoor
open Go.RowKit Go.PlainAid

theorem withoutNamed_any (p : Pk) (aa ac : Option Addr) (ca cc : Nat) (w : World) :
    Calls Tryd.prog 60 #[pkV p aa ca ac cc] w fun e w' => ∃ aa' ca' ac' cc', e = .returned (pkV (wn p) aa' ca' ac' cc') ∧ Below w.heap.size w w' := by
  by_cases h : p.kind = 1 ∨ p.kind = 2 ∨ p.kind = 3 ∨ p.kind = 4 ∨ p.kind = 8 ∨ p.kind = 9 ∨ p.kind = 10 ∨ p.kind = 11
  · rcases h with h | h | h | h | h | h | h | h
    · exact (withoutNamed_1 p aa ac ca cc w h).mono fun e w' x => ⟨_, _, _, _, x⟩
    · exact (withoutNamed_2 p aa ac ca cc w h).mono fun e w' x => ⟨_, _, _, _, x⟩
    · exact (withoutNamed_3 p aa ac ca cc w h).mono fun e w' x => ⟨_, _, _, _, x⟩
    · exact (withoutNamed_4 p aa ac ca cc w h).mono fun e w' x => ⟨_, _, _, _, x⟩
    · exact (withoutNamed_8 p aa ac ca cc w h).mono fun e w' x => ⟨_, _, _, _, x⟩
    · exact (withoutNamed_9 p aa ac ca cc w h).mono fun e w' x => ⟨_, _, _, _, x⟩
    · exact (withoutNamed_10 p aa ac ca cc w h).mono fun e w' x => ⟨_, _, _, _, x⟩
    · exact (withoutNamed_11 p aa ac ca cc w h).mono fun e w' x => ⟨_, _, _, _, x⟩
  · exact (withoutNamed_no p aa ac ca cc w h).mono fun e w' x => ⟨_, _, _, _, x⟩
end Go.Proofs.YtnhcecgmcmcioaaDoor
