/-
  watch.clone: what it answers.
-/
import Derived.Test.YtbodjfmbdddieafDoorWatchMath
namespace Go.Proofs.YtbodjfmbdddieafDoor
open Go.RowKit Go.PlainAid

theorem wfour_below {w w' : World} {N b : Nat} (h : Below N w w') (hb : N ≤ b) (x y z u : Value) : Below N w ((((w'.setCell ⟨b, 0, none⟩ x).setCell ⟨b, 1, none⟩ y).setCell ⟨b, 2, none⟩ z).setCell ⟨b, 3, none⟩ u) := (((h.setCell (p := ⟨b, 0, none⟩) hb x).setCell (p := ⟨b, 1, none⟩) hb y).setCell (p := ⟨b, 2, none⟩) hb z).setCell (p := ⟨b, 3, none⟩) hb u
theorem two_keep1 {W : World} {b : Nat} {y z : Value} (h1 : W.cell? ⟨b, 1, none⟩ = some y) (h2 : W.cell? ⟨b, 2, none⟩ = some z) :
    (W.setCell ⟨b, 1, none⟩ y).cell? ⟨b, 1, none⟩ = some y ∧ (W.setCell ⟨b, 1, none⟩ y).cell? ⟨b, 2, none⟩ = some z :=
  ⟨World.cell?_setCell_same _ _ _ h1, (World.cell?_setCell_other _ _ _ _ (by simp)).trans h2⟩
theorem two_keep2 {W : World} {b : Nat} {y z : Value} (h1 : W.cell? ⟨b, 1, none⟩ = some y) (h2 : W.cell? ⟨b, 2, none⟩ = some z) :
    (W.setCell ⟨b, 2, none⟩ z).cell? ⟨b, 1, none⟩ = some y ∧ (W.setCell ⟨b, 2, none⟩ z).cell? ⟨b, 2, none⟩ = some z :=
  ⟨(World.cell?_setCell_other _ _ _ _ (by simp)).trans h1, World.cell?_setCell_same _ _ _ h2⟩
theorem two_keep12 {W : World} {b : Nat} {y z : Value} (h1 : W.cell? ⟨b, 1, none⟩ = some y) (h2 : W.cell? ⟨b, 2, none⟩ = some z) :
    ((W.setCell ⟨b, 1, none⟩ y).setCell ⟨b, 2, none⟩ z).cell? ⟨b, 1, none⟩ = some y ∧ ((W.setCell ⟨b, 1, none⟩ y).setCell ⟨b, 2, none⟩ z).cell? ⟨b, 2, none⟩ = some z := two_keep2 (two_keep1 h1 h2).1 (two_keep1 h1 h2).2
theorem two_keep21 {W : World} {b : Nat} {y z : Value} (h1 : W.cell? ⟨b, 1, none⟩ = some y) (h2 : W.cell? ⟨b, 2, none⟩ = some z) :
    ((W.setCell ⟨b, 2, none⟩ z).setCell ⟨b, 1, none⟩ y).cell? ⟨b, 1, none⟩ = some y ∧ ((W.setCell ⟨b, 2, none⟩ z).setCell ⟨b, 1, none⟩ y).cell? ⟨b, 2, none⟩ = some z := two_keep1 (two_keep2 h1 h2).1 (two_keep2 h1 h2).2

theorem cl_end {w W : World} {b2 : Nat} {T : TypeId} {x y z u : Value} {e : Array Value} (h : Cl w w.heap.size b2 (.cells #[x, y, z, u] T (0, 0)) (.cells e T (0, 0)) W) (hne : w.heap.size ≠ b2) :
    ∃ X, X = (W.setCell ⟨w.heap.size, 1, none⟩ y).setCell ⟨w.heap.size, 2, none⟩ z ∧ X.cell? ⟨w.heap.size, 0, none⟩ = some x ∧ X.cell? ⟨w.heap.size, 1, none⟩ = some y ∧ X.cell? ⟨w.heap.size, 2, none⟩ = some z ∧ X.cell? ⟨w.heap.size, 3, none⟩ = some u ∧ (∀ o, X.cell? ⟨b2, o, none⟩ = e[o]?) ∧ (∀ o, X.frozen? ⟨b2, o, none⟩ = false) ∧ Below w.heap.size w X := by
  have k := two_keep12 (W := W) (b := w.heap.size) (y := y) (z := z) (h.cell1 1) (h.cell1 2)
  refine ⟨_, rfl, ?_, k.1, k.2, ?_, fun o => ?_, fun o => ?_, (h.bel.setCell (p := ⟨w.heap.size, 1, none⟩) (Nat.le_refl _) y).setCell (p := ⟨w.heap.size, 2, none⟩) (Nat.le_refl _) z⟩
  · rw [World.cell?_setCell_other _ _ _ _ (by simp), World.cell?_setCell_other _ _ _ _ (by simp)]; exact h.cell1 0
  · rw [World.cell?_setCell_other _ _ _ _ (by simp), World.cell?_setCell_other _ _ _ _ (by simp)]; exact h.cell1 3
  · rw [World.cell?_setCell_other _ _ _ _ (fun e => hne (congrArg Addr.block e)), World.cell?_setCell_other _ _ _ _ (fun e => hne (congrArg Addr.block e))]; exact h.cell2 o
  · rw [World.frozen?_setCell, World.frozen?_setCell]; exact h.frozen2 o

set_option maxHeartbeats 2000000 in
set_option maxRecDepth 100000 in
theorem clone_wt (k : Wt) (w : World) (h1 : k.token.size ≤ 281474976710656) (h2 : k.topic.size ≤ 281474976710656) : Calls Tryd.prog 28 #[wtV k] w fun e w' => e = .returned (wtV k) ∧ Below w.heap.size w w' := by
  obtain ⟨p, t, n, v⟩ := k
  simp only [wtV] at *
  have CT := hide (fun W => kclone_any t W h1)
  have CP := hide (fun W => kclone_any n W h2)
  clear h1 h2
  have HI : Hid (Cl w w.heap.size (w.heap.size + 1) (.cells #[.int .i64 p, .string t, .string n, .int .i64 v] 30 (0, 0)) (.cells #[.int .i64 0, .string ⟨#[]⟩, .string ⟨#[]⟩, .int .i64 0] 30 (0, 0)) ((w.alloc (.cells #[.int .i64 p, .string t, .string n, .int .i64 v] 30)).alloc (.cells #[.int .i64 0, .string ⟨#[]⟩, .string ⟨#[]⟩, .int .i64 0] 30))) := by
    refine ⟨?_, ?_, ((Below.refl w.heap.size w).alloc (Nat.le_refl _) _).alloc (by simp) _⟩
    · rw [Below.heap_alloc _ _ _ (by simp)]; exact Go.heap_alloc_new w _
    · have := Go.heap_alloc_new (w.alloc (.cells #[.int .i64 p, .string t, .string n, .int .i64 v] 30)) (.cells #[.int .i64 0, .string ⟨#[]⟩, .string ⟨#[]⟩, .int .i64 0] 30)
      simpa using this
  go_enter Tryd.func28, Tryd.ntmps28
  go_upto_region 1 with fail
  revert HI
  generalize (w.alloc (.cells #[.int .i64 p, .string t, .string n, .int .i64 v] 30)).alloc (.cells #[.int .i64 0, .string ⟨#[]⟩, .string ⟨#[]⟩, .int .i64 0] 30) = W
  intro HI
  have hb2 : w.heap.size ≤ w.heap.size + 1 := by omega
  generalize hc : w.heap.size + 1 = c2 at *
  have q0 : W.cell? ⟨w.heap.size, 0, none⟩ = some (.int .i64 p) := HI.out.cell1 0
  have q1 : W.cell? ⟨w.heap.size, 1, none⟩ = some (.string t) := HI.out.cell1 1
  have q2 : W.cell? ⟨w.heap.size, 2, none⟩ = some (.string n) := HI.out.cell1 2
  have q3 : W.cell? ⟨w.heap.size, 3, none⟩ = some (.int .i64 v) := HI.out.cell1 3
  have z0 : ∀ o, W.cell? ⟨c2, o, none⟩ = (#[.int .i64 0, .string ⟨#[]⟩, .string ⟨#[]⟩, .int .i64 0] : Array Value)[o]? := HI.out.cell2
  have hne : w.heap.size ≠ c2 := by omega
  clear hc
  go_region_held3 (fun w' => w'.cell? ⟨w.heap.size, 1, none⟩ = some (.string t) ∧ w'.cell? ⟨w.heap.size, 2, none⟩ = some (.string n)) (first
      | (refine ⟨?_, ?_⟩ <;> assumption)
      | (refine two_keep1 ?_ ?_ <;> assumption)
      | (refine two_keep2 ?_ ?_ <;> assumption)
      | (refine two_keep12 ?_ ?_ <;> assumption)
      | (refine two_keep21 ?_ ?_ <;> assumption)
      | go_keep
      | fail)
    (first
      | (go_at_call 35; refine (CT.out _).mono ?_; rintro e wa ⟨rfl, hba⟩; have IA := (by first | exact HI.out.drew.step hba | exact IB.step hba); have j0 : wa.cell? ⟨w.heap.size, 0, none⟩ = some (.int .i64 p) := IA.cell1 0; have j1 : wa.cell? ⟨w.heap.size, 1, none⟩ = some (.string t) := IA.cell1 1; have j2 : wa.cell? ⟨w.heap.size, 2, none⟩ = some (.string n) := IA.cell1 2; have j3 : wa.cell? ⟨w.heap.size, 3, none⟩ = some (.int .i64 v) := IA.cell1 3; have jz := IA.cell2; have jf := IA.frozen2; have je := IA.frozen1)
      | (go_at_call 35; refine (CP.out _).mono ?_; rintro e wb ⟨rfl, hbb⟩; have IB := (by first | exact HI.out.drew.step hbb | exact IA.step hbb); have i0 : wb.cell? ⟨w.heap.size, 0, none⟩ = some (.int .i64 p) := IB.cell1 0; have i1 : wb.cell? ⟨w.heap.size, 1, none⟩ = some (.string t) := IB.cell1 1; have i2 : wb.cell? ⟨w.heap.size, 2, none⟩ = some (.string n) := IB.cell1 2; have i3 : wb.cell? ⟨w.heap.size, 3, none⟩ = some (.int .i64 v) := IB.cell1 3; have iz := IB.cell2; have iif := IB.frozen2; have ie := IB.frozen1)
      | fail)
  all_goals
    obtain ⟨X, hX, x0, x1, x2, x3, xz, xf, xb⟩ := cl_end IB hne
    rw [← hX]
    clear hX
    have HX := hide xb
    clear xb IB
    go_wp2
    exact bodyPost_ret (v := .agg #[.int .i64 p, .string t, .string n, .int .i64 v]) (by simp [results, Tryd.results28, go_sem, World.cell?_setCell_same, xz]) rfl ⟨rfl, wfour_below HX.out hb2 _ _ _ _⟩
end Go.Proofs.YtbodjfmbdddieafDoor
