/-
  Rows of structs, whatever their struct: copies under way, rows that grow; strings.Clone.
-/
import Derived.Test.YtnhcecgmcmcioaaDoorTopicCheck
import Derived.Deep.RegionHeld3
import Derived.Laws.Cover1
import Derived.Deep.AppendLies
import Derived.Deep.DeepCutAuto
namespace Go.Proofs.YtnhcecgmcmcioaaDoor
open Go.RowKit Go.PlainAid

theorem kclone_any (s : ByteArray) (w : World) (h : s.size ≤ 281474976710656) :
    Calls Tryd.prog 49 #[.string s] w fun e w' => e = .returned (.string s) ∧ Below w.heap.size w w' := by
  go_enter Tryd.func49, Tryd.ntmps49
  go_wp2_with (go_at_call 57; refine (Tryd.stringslite_Clone _ _ h).mono ?_; rintro e w1 ⟨rfl, hb⟩)
  go_ret
  exact ⟨rfl, hb⟩

/-- while a copy is made: the box that was handed in, the box of the answer -/
structure Cl (w : World) (b1 b2 : Nat) (o1 o2 : Obj) (W : World) : Prop where
  a1 : W.heap[b1]? = some o1
  a2 : W.heap[b2]? = some o2
  bel : Below w.heap.size w W
theorem Cl.step {w : World} {b1 b2 : Nat} {o1 o2 : Obj} {W W' : World} (h : Cl w b1 b2 o1 o2 W) (hb : Below W.heap.size W W') : Cl w b1 b2 o1 o2 W' :=
  ⟨(hb.block b1 (Array.getElem?_eq_some_iff.1 h.a1).1).trans h.a1, (hb.block b2 (Array.getElem?_eq_some_iff.1 h.a2).1).trans h.a2, h.bel.trans (hb.mono h.bel.size)⟩
theorem Cl.drew {w : World} {b1 b2 : Nat} {o1 o2 : Obj} {W : World} (h : Cl w b1 b2 o1 o2 W) : Cl w b1 b2 o1 o2 W.drew := ⟨h.a1, h.a2, h.bel.drew⟩
theorem Cl.cell1 {w : World} {b1 b2 : Nat} {c : Array Value} {t : TypeId} {o2 : Obj} {W : World} (h : Cl w b1 b2 (.cells c t (0, 0)) o2 W) (o : Nat) : W.cell? ⟨b1, o, none⟩ = c[o]? := Lib.cell_of_heap h.a1 o
theorem Cl.cell2 {w : World} {b1 b2 : Nat} {c : Array Value} {t : TypeId} {o1 : Obj} {W : World} (h : Cl w b1 b2 o1 (.cells c t (0, 0)) W) (o : Nat) : W.cell? ⟨b2, o, none⟩ = c[o]? := Lib.cell_of_heap h.a2 o
theorem Cl.frozen1 {w : World} {b1 b2 : Nat} {c : Array Value} {t : TypeId} {o2 : Obj} {W : World} (h : Cl w b1 b2 (.cells c t (0, 0)) o2 W) (o : Nat) : W.frozen? ⟨b1, o, none⟩ = false := Lib.frozen_of_heap h.a1 o
theorem Cl.frozen2 {w : World} {b1 b2 : Nat} {c : Array Value} {t : TypeId} {o1 : Obj} {W : World} (h : Cl w b1 b2 o1 (.cells c t (0, 0)) W) (o : Nat) : W.frozen? ⟨b2, o, none⟩ = false := Lib.frozen_of_heap h.a2 o

theorem kown_kept {w w' : World} {N : Nat} {e : TypeId} {k : Nat} {v : Value} {n : Nat} {xs : List Value} (h : w.ownsRow N e k v n xs) (hk : ∀ g, v.ownBlock = some g → w'.heap[g]? = w.heap[g]?) : w'.ownsRow N e k v n xs := by
  refine ⟨h.1, ?_⟩
  rcases h.2 with hn | ⟨g, cap, cur, rfl, hb, hg, rest⟩
  · exact .inl hn
  · exact .inr ⟨g, cap, cur, rfl, hb, by rw [hk g rfl]; exact hg, rest⟩
theorem kown_at {w : World} {N : Nat} {e : TypeId} {k : Nat} {v : Value} {n : Nat} {xs : List Value} (h : w.ownsRow N e k v n xs) {g : Nat} (hg : v.ownBlock = some g) : N ≤ g ∧ ∃ cur, w.heap[g]? = some (.cells cur e (0, 0)) := by
  rcases h.2 with ⟨rfl, _⟩ | ⟨g', cap, cur, rfl, hb, hg', _⟩
  · simp [Value.ownBlock] at hg
  · simp only [Value.ownBlock, Option.some.injEq] at hg
    subst hg
    exact ⟨hb, cur, hg'⟩
theorem kown_lt {w : World} {N : Nat} {e : TypeId} {k : Nat} {v : Value} {n : Nat} {xs : List Value} (h : w.ownsRow N e k v n xs) {g : Nat} (hg : v.ownBlock = some g) : g < w.heap.size := by
  obtain ⟨_, cur, hc⟩ := kown_at h hg
  exact (Array.getElem?_eq_some_iff.1 hc).1
theorem kown_below {w w' : World} {N : Nat} {e : TypeId} {k : Nat} {v : Value} {n : Nat} {xs : List Value} (h : w.ownsRow N e k v n xs) (hb : Below w.heap.size w w') : w'.ownsRow N e k v n xs := kown_kept h fun _ hg => hb.block _ (kown_lt h hg)
theorem kown_form {w : World} {B : Nat} {e : TypeId} {size : Nat} {v : Value} {n : Nat} {xs : List Value} (h : w.ownsRow B e size v n xs) : ∃ ao co, v = .slice ao n co := by
  rcases h.2 with ⟨rfl, rfl⟩ | ⟨g, cap, cur, rfl, _⟩
  · exact ⟨none, 0, rfl⟩
  · exact ⟨_, _, rfl⟩
theorem kown_mono {w : World} {N M : Nat} {e : TypeId} {k : Nat} {v : Value} {n : Nat} {xs : List Value} (h : w.ownsRow N e k v n xs) (hM : M ≤ N) : w.ownsRow M e k v n xs := by
  refine ⟨h.1, ?_⟩
  rcases h.2 with hn | ⟨g, cap, cur, rfl, hb, rest⟩
  · exact .inl hn
  · exact .inr ⟨g, cap, cur, rfl, by omega, rest⟩
theorem kbelow_drewN {N : Nat} {w w' : World} (h : Below N w w') (n : Nat) : Below N w (w'.drewN n) := ⟨h.os, h.tape, h.output, h.size, h.block⟩

end Go.Proofs.YtnhcecgmcmcioaaDoor
