/-
  dragomanlaw.OptionTells: true, for a name of at most 1048576 bytes.
-/
import Derived.Test.YtgmjdelgocbcaacDoorOptRefWith
import Derived.Test.YtgmjdelgocbcaacDoorOptRefBlk
import Derived.Test.YtgmjdelgocbcaacDoorOptRefPath
import Derived.Test.YtgmjdelgocbcaacDoorOptBegun
namespace Go.Proofs.YtgmjdelgocbcaacDoor
open Go.RowKit Go.PlainAid

/-- the boxes of what is wanted -/
structure Ph (B : World) (o31 o32 o33 o35 : Obj) (W : World) : Prop where
  bel : Below B.heap.size B W
  x31 : W.heap[B.heap.size]? = some o31
  x32 : W.heap[B.heap.size + 1]? = some o32
  x33 : W.heap[B.heap.size + 1 + 1]? = some o33
  x35 : W.heap[B.heap.size + 1 + 1 + 1]? = some o35
section
variable {B : World} {o31 o32 o33 o35 : Obj} {W W' : World} {t : TypeId} {y0 y1 y2 y3 y4 y5 : Value}
theorem Ph.step (h : Ph B o31 o32 o33 o35 W) (hb : Below W.heap.size W W') : Ph B o31 o32 o33 o35 W' := ⟨below_step h.bel hb, box_step h.x31 hb, box_step h.x32 hb, box_step h.x33 hb, box_step h.x35 hb⟩
theorem Ph.drew (h : Ph B o31 o32 o33 o35 W) : Ph B o31 o32 o33 o35 W.drew := ⟨h.bel.drew, h.x31, h.x32, h.x33, h.x35⟩
theorem Ph.alloc (h : Ph B o31 o32 o33 o35 W) (x : Obj) : Ph B o31 o32 o33 o35 (W.alloc x) := h.step ((Below.refl _ W).alloc (Nat.le_refl _) x)
theorem Ph.lt (h : Ph B o31 o32 o33 o35 W) : B.heap.size + 1 + 1 + 1 < W.heap.size := box_lt h.x35
theorem set6_same {b : Nat} (h : W.heap[b]? = some (.cells #[y0, y1, y2, y3, y4, y5] t (0, 0))) (x0 x1 x2 x3 x4 x5 : Value) : (set6 W b x0 x1 x2 x3 x4 x5).heap[b]? = some (.cells #[x0, x1, x2, x3, x4, x5] t (0, 0)) := by
  simp [set6, World.setCell, Array.getElem?_modify, h]
theorem Ph.set31 (h : Ph B (.cells #[y0, y1, y2, y3, y4, y5] t (0, 0)) o32 o33 o35 W) (x0 x1 x2 x3 x4 x5 : Value) : Ph B (.cells #[x0, x1, x2, x3, x4, x5] t (0, 0)) o32 o33 o35 (set6 W B.heap.size x0 x1 x2 x3 x4 x5) :=
  ⟨set6_below h.bel (Nat.le_refl _) _ _ _ _ _ _, set6_same h.x31 _ _ _ _ _ _, (set6_other _ _ _ _ _ _ _ _ (by omega)).trans h.x32, (set6_other _ _ _ _ _ _ _ _ (by omega)).trans h.x33, (set6_other _ _ _ _ _ _ _ _ (by omega)).trans h.x35⟩
theorem Ph.set32 (h : Ph B o31 (.cells #[y0, y1, y2, y3, y4, y5] t (0, 0)) o33 o35 W) (x0 x1 x2 x3 x4 x5 : Value) : Ph B o31 (.cells #[x0, x1, x2, x3, x4, x5] t (0, 0)) o33 o35 (set6 W (B.heap.size + 1) x0 x1 x2 x3 x4 x5) :=
  ⟨set6_below h.bel (by omega) _ _ _ _ _ _, (set6_other _ _ _ _ _ _ _ _ (by omega)).trans h.x31, set6_same h.x32 _ _ _ _ _ _, (set6_other _ _ _ _ _ _ _ _ (by omega)).trans h.x33, (set6_other _ _ _ _ _ _ _ _ (by omega)).trans h.x35⟩
theorem Ph.set33 (h : Ph B o31 o32 (.cells #[y0, y1, y2, y3, y4, y5] t (0, 0)) o35 W) (x0 x1 x2 x3 x4 x5 : Value) : Ph B o31 o32 (.cells #[x0, x1, x2, x3, x4, x5] t (0, 0)) o35 (set6 W (B.heap.size + 1 + 1) x0 x1 x2 x3 x4 x5) :=
  ⟨set6_below h.bel (by omega) _ _ _ _ _ _, (set6_other _ _ _ _ _ _ _ _ (by omega)).trans h.x31, (set6_other _ _ _ _ _ _ _ _ (by omega)).trans h.x32, set6_same h.x33 _ _ _ _ _ _, (set6_other _ _ _ _ _ _ _ _ (by omega)).trans h.x35⟩
def set3 (W : World) (b : Nat) (x0 x1 x2 : Value) : World := ((W.setCell ⟨b, 0, none⟩ x0).setCell ⟨b, 1, none⟩ x1).setCell ⟨b, 2, none⟩ x2
theorem set3_other {b : Nat} (x0 x1 x2 : Value) {g : Nat} (h : g ≠ b) : (set3 W b x0 x1 x2).heap[g]? = W.heap[g]? := by
  unfold set3
  rw [Below.heap_setCell _ _ _ _ h, Below.heap_setCell _ _ _ _ h, Below.heap_setCell _ _ _ _ h]
theorem Ph.set35 (h : Ph B o31 o32 o33 (.cells #[y0, y1, y2] t (0, 0)) W) (x0 x1 x2 : Value) : Ph B o31 o32 o33 (.cells #[x0, x1, x2] t (0, 0)) (set3 W (B.heap.size + 1 + 1 + 1) x0 x1 x2) :=
  ⟨((h.bel.setCell (p := ⟨_, 0, none⟩) (by show B.heap.size ≤ B.heap.size + 1 + 1 + 1; omega) x0).setCell (p := ⟨_, 1, none⟩) (by show B.heap.size ≤ B.heap.size + 1 + 1 + 1; omega) x1).setCell (p := ⟨_, 2, none⟩) (by show B.heap.size ≤ B.heap.size + 1 + 1 + 1; omega) x2, (set3_other _ _ _ (by omega)).trans h.x31, (set3_other _ _ _ (by omega)).trans h.x32, (set3_other _ _ _ (by omega)).trans h.x33, by simp [set3, World.setCell, Array.getElem?_modify, h.x35]⟩
end
/-- options that lie behind the boxes -/
def OptsF (B W : World) (aa : Option Addr) (l : List Op2) : Prop := OptsIn W aa l ∧ (l = [] ∨ ∃ g o, aa = some ⟨g, o, none⟩ ∧ B.heap.size + 1 + 1 + 1 < g)
theorem OptsF.step {B W W' : World} {aa : Option Addr} {l : List Op2} (h : OptsF B W aa l) (hb : Below W.heap.size W W') : OptsF B W' aa l := ⟨h.1.below hb, h.2⟩
theorem OptsF.set {B W : World} {aa : Option Addr} {l : List Op2} {b : Nat} (h : OptsF B W aa l) (hb : b ≤ B.heap.size + 1 + 1 + 1) (x0 x1 x2 x3 x4 x5 : Value) : OptsF B (set6 W b x0 x1 x2 x3 x4 x5) aa l := by
  refine ⟨?_, h.2⟩
  rcases h.1 with e | ⟨g, o, ha, hg, hc⟩
  · exact .inl e
  · rcases h.2 with e | ⟨g', o', e, hg'⟩
    · exact .inl e
    · rw [ha] at e
      cases e
      have hs := set6_other W b x0 x1 x2 x3 x4 x5 (show g ≠ b by omega)
      refine .inr ⟨g, o, ha, ?_, fun q hq => ?_⟩
      · have : g < (set6 W b x0 x1 x2 x3 x4 x5).heap.size := by
          rcases hw : W.heap[g]? with _ | ob
          · rw [Array.getElem?_eq_none_iff] at hw; omega
          · rw [hw] at hs; exact (Array.getElem?_eq_some_iff.1 hs).1
        exact this
      · rw [World.cell?_of_block (a := ⟨g, o + q * 2, none⟩) hs, World.cell?_of_block (a := ⟨g, o + q * 2 + 1, none⟩) hs]; exact hc q hq
theorem OptsF.of_new {B V W : World} {aa : Option Addr} {l : List Op2} (h : OptsIn W aa l) (hf : l = [] ∨ ∃ g o, aa = some ⟨g, o, none⟩ ∧ V.heap.size ≤ g) (hv : B.heap.size + 1 + 1 + 1 < V.heap.size) : OptsF B W aa l :=
  ⟨h, hf.imp id (fun ⟨g, o, e, hg⟩ => ⟨g, o, e, by omega⟩)⟩
theorem zero_cells {M : Mg} (h : M = zMg) : (#[.int .i64 0, .int .i64 0, .int .i64 0, .string ⟨#[]⟩, .slice none 0 0, .string ⟨#[]⟩] : Array Value) = #[.int .i64 M.kind, .int .i64 M.code, .int .i64 M.id, .string M.token, .slice none M.opts.length 0, .string M.payload] ∧ M.opts = [] := by subst h; exact ⟨rfl, rfl⟩
theorem wp_no {m : Mg} {x : ByteArray} (h : wpE m x ≠ 0) : wpM m x = zMg := by
  unfold wpE at h
  by_cases h1 : chkM m = 0
  · rw [if_neg (by simp [h1])] at h
    by_cases h2 : chk nameF x = 0
    · rw [if_neg (by simp [h2])] at h
      rw [wpM, if_neg (by simp [h1]), if_neg (by simp [h2]), chkdM, if_neg h]
    · rw [wpM, if_neg (by simp [h1]), if_pos h2]
  · rw [wpM, if_pos h1]
theorem blk_fit {n : Int} (more : Bool) {z : Int} (h : isB n z = true) : 0 ≤ blkX n more z ∧ blkX n more z ≤ 16777215 := by
  simp only [isB, Bool.and_eq_true, decide_eq_true_eq] at h
  unfold blkX
  cases more <;> simp <;> omega
theorem strs_lv {W : World} {g : Nat} {L : List ByteArray} (hn : L ≠ []) (h : ∀ k (h : k < L.length), W.cell? ⟨g, k, none⟩ = some (.string L[k])) : StrsIn W (some ⟨g, 0, none⟩) L := by
  refine .inr ⟨g, 0, rfl, ?_, fun i hi => by rw [Nat.zero_add]; exact h i hi⟩
  have h0 := h 0 (List.length_pos_iff.2 hn)
  rcases hg : W.heap[g]? with _ | ob
  · simp [World.cell?, hg] at h0
  · exact (Array.getElem?_eq_some_iff.1 hg).1
theorem Ph.cast31 {B W : World} {x y : Array Value} {o32 o33 o35 : Obj} {t : TypeId} {f : Nat × Nat} (h : Ph B (.cells x t f) o32 o33 o35 W) (e : x = y) : Ph B (.cells y t f) o32 o33 o35 W := e ▸ h
theorem Ph.cast32 {B W : World} {x y : Array Value} {o31 o33 o35 : Obj} {t : TypeId} {f : Nat × Nat} (h : Ph B o31 (.cells x t f) o33 o35 W) (e : x = y) : Ph B o31 (.cells y t f) o33 o35 W := e ▸ h
theorem Ph.cast33 {B W : World} {x y : Array Value} {o31 o32 o35 : Obj} {t : TypeId} {f : Nat × Nat} (h : Ph B o31 o32 (.cells x t f) o35 W) (e : x = y) : Ph B o31 o32 (.cells y t f) o35 W := e ▸ h
theorem Ph.cast35 {B W : World} {x y : Array Value} {o31 o32 o33 : Obj} {t : TypeId} {f : Nat × Nat} (h : Ph B o31 o32 o33 (.cells x t f) W) (e : x = y) : Ph B o31 o32 o33 (.cells y t f) W := e ▸ h
theorem optsF_none {B W : World} {l : List Op2} (e : l = []) : OptsF B W none l := ⟨.inl e, .inl e⟩
theorem two_way (V T : Int) : ∃ R : Int, Hid ((V = 0 → R = T) ∧ (V ≠ 0 → R = V)) := ⟨if V = 0 then T else V, fun h => if_pos h, fun h => if_neg h⟩
theorem three_way (V : Int) (p : Prop) : ∃ R : Int, Hid ((V = 0 → p → R = 3) ∧ (V = 0 → ¬ p → R = 0) ∧ (V ≠ 0 → R = V)) := by
  by_cases h : V = 0
  · by_cases hp : p
    · exact ⟨3, fun _ _ => rfl, fun _ h' => absurd hp h', fun h' => absurd h h'⟩
    · exact ⟨0, fun _ h' => absurd h' hp, fun _ _ => rfl, fun h' => absurd h h'⟩
  · exact ⟨V, fun h' => absurd h' h, fun h' => absurd h' h, fun _ => rfl⟩
theorem six_of {W : World} {b : Nat} {x0 x1 x2 x3 x4 x5 : Value} {t : TypeId} {f : Nat × Nat} (h : W.heap[b]? = some (.cells #[x0, x1, x2, x3, x4, x5] t f)) : W.cell? ⟨b, 0, none⟩ = some x0 ∧ W.cell? ⟨b, 1, none⟩ = some x1 ∧ W.cell? ⟨b, 2, none⟩ = some x2 ∧ W.cell? ⟨b, 3, none⟩ = some x3 ∧ W.cell? ⟨b, 4, none⟩ = some x4 ∧ W.cell? ⟨b, 5, none⟩ = some x5 :=
  ⟨Lib.cell_of_heap h 0, Lib.cell_of_heap h 1, Lib.cell_of_heap h 2, Lib.cell_of_heap h 3, Lib.cell_of_heap h 4, Lib.cell_of_heap h 5⟩
theorem nine_of {W : World} {b g : Nat} {x0 x1 x2 x3 x4 x5 y0 y1 y2 : Value} {t u : TypeId} {f j : Nat × Nat} (h : W.heap[b]? = some (.cells #[x0, x1, x2, x3, x4, x5] t f)) (k : W.heap[g]? = some (.cells #[y0, y1, y2] u j)) : W.cell? ⟨b, 0, none⟩ = some x0 ∧ W.cell? ⟨b, 1, none⟩ = some x1 ∧ W.cell? ⟨b, 2, none⟩ = some x2 ∧ W.cell? ⟨b, 3, none⟩ = some x3 ∧ W.cell? ⟨b, 4, none⟩ = some x4 ∧ W.cell? ⟨b, 5, none⟩ = some x5 ∧ W.cell? ⟨g, 0, none⟩ = some y0 ∧ W.cell? ⟨g, 1, none⟩ = some y1 ∧ W.cell? ⟨g, 2, none⟩ = some y2 :=
  ⟨Lib.cell_of_heap h 0, Lib.cell_of_heap h 1, Lib.cell_of_heap h 2, Lib.cell_of_heap h 3, Lib.cell_of_heap h 4, Lib.cell_of_heap h 5, Lib.cell_of_heap k 0, Lib.cell_of_heap k 1, Lib.cell_of_heap k 2⟩
theorem strs_one (W : World) (v : ByteArray) {t : TypeId} : StrsIn (W.alloc (.cells #[.string v] t)) (some ⟨W.heap.size, 0, none⟩) [v] := by
  refine .inr ⟨W.heap.size, 0, rfl, by simp, fun i hi => ?_⟩
  have : i = 0 := by simp at hi; omega
  subst this
  exact Lib.cell_of_heap (Go.heap_alloc_new W _) 0
end Go.Proofs.YtgmjdelgocbcaacDoor
