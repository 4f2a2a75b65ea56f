/-
  session.sender's fly: what it leaves.
-/
import Derived.Test.YtnhcecgmcmcioaaDoorSesFree
namespace Go.Proofs.YtnhcecgmcmcioaaDoor
open Go.RowKit Go.PlainAid

/-- what waits flies while it may (so many at the most) -/
def flyS : Nat → Se → List Pk → Se × List Pk
  | 0, s, L => (s, L)
  | k + 1, s, L =>
    match s.qu with
    | [] => (s, L)
    | f :: q => if s.on = true ∧ s.fl.length < 3 then flyS k ⟨s.client, s.on, s.clean, s.fl ++ [⟨frId s.fl 4 s.next, f.topic, f.load⟩], q, nxt (frId s.fl 4 s.next)⟩ (L ++ [flP ⟨frId s.fl 4 s.next, f.topic, f.load⟩ false]) else (s, L)
theorem flyS_end {k : Nat} {s : Se} {L : List Pk} (h : s.on = false ∨ s.qu = [] ∨ ¬ s.fl.length < 3) : flyS k s L = (s, L) := by
  cases k with
  | zero => rfl
  | succ k =>
    rw [flyS]
    cases hq : s.qu with
    | nil => rfl
    | cons f q =>
      simp only
      rw [if_neg]
      rintro ⟨h1, h2⟩
      rcases h with h | h | h
      · rw [h] at h1; cases h1
      · rw [hq] at h; cases h
      · exact h h2
theorem flyS_step {k : Nat} {s : Se} {L : List Pk} {f : Fl} {q : List Fl} (h1 : s.on = true) (h2 : s.qu = f :: q) (h3 : s.fl.length < 3) : flyS (k + 1) s L = flyS k ⟨s.client, s.on, s.clean, s.fl ++ [⟨frId s.fl 4 s.next, f.topic, f.load⟩], q, nxt (frId s.fl 4 s.next)⟩ (L ++ [flP ⟨frId s.fl 4 s.next, f.topic, f.load⟩ false]) := by
  rw [flyS, h2]
  simp only
  rw [if_pos ⟨h1, h3⟩]

section
variable {N b : Nat} {s : Se} {va : Value} {ab : Option Addr} {cb : Nat} {vs : Value} {L : List Pk} {w W W' : World}
/-- a flight's box beside a sender -/
structure Sf (N b : Nat) (s : Se) (va : Value) (ab : Option Addr) (cb : Nat) (vs : Value) (L : List Pk) (w : World) (c : Nat) (f : Fl) (W : World) : Prop where
  sd : Sd N b s va ab cb vs L w W
  at9 : W.heap[c]? = some (.cells #[.int .i64 f.id, .string f.topic, .string f.load] 46 (0, 0))
  nf : va.ownBlock ≠ some c
  nq : ∀ g o, ab = some ⟨g, o, none⟩ → s.qu ≠ [] → g ≠ c
  ge : N ≤ c
theorem Sf.step {c : Nat} {f : Fl} (h : Sf N b s va ab cb vs L w c f W) (hb : Below W.heap.size W W') : Sf N b s va ab cb vs L w c f W' :=
  ⟨h.sd.step hb, (hb.block _ (Array.getElem?_eq_some_iff.1 h.at9).1).trans h.at9, h.nf, h.nq, h.ge⟩
theorem Sf.cell {c : Nat} {f : Fl} (h : Sf N b s va ab cb vs L w c f W) (o : Nat) : W.cell? ⟨c, o, none⟩ = (#[.int .i64 f.id, .string f.topic, .string f.load] : Array Value)[o]? := Lib.cell_of_heap h.at9 o
theorem Sf.frozen {c : Nat} {f : Fl} (h : Sf N b s va ab cb vs L w c f W) (o : Nat) : W.frozen? ⟨c, o, none⟩ = false := Lib.frozen_of_heap h.at9 o
theorem Sf.new {f : Fl} (h : Sd N b s va ab cb vs L w W) : Sf N b s va ab cb vs L w W.heap.size f (W.alloc (.cells #[.int .i64 f.id, .string f.topic, .string f.load] 46)) := by
  refine ⟨h.alloc _, Go.heap_alloc_new W _, fun e => by have := kown_lt h.fl e; omega, fun g o ha hne => ?_, by have := h.le; have := h.box.lt; omega⟩
  rcases h.qu with h0 | ⟨g', o', cur, ha', _, _, hg, _⟩
  · exact absurd h0 hne
  · rw [ha] at ha'
    injection ha' with ha'
    injection ha' with ha' _ _
    subst ha'
    have := (Array.getElem?_eq_some_iff.1 hg).1
    omega
theorem Sf.neb {c : Nat} {f : Fl} (h : Sf N b s va ab cb vs L w c f W) : b ≠ c := fun e => by
  have h1 := h.sd.box; have h2 := h.at9
  unfold NAt at h1
  rw [e, h2] at h1
  simp only [Option.some.injEq, Obj.cells.injEq] at h1
  exact absurd h1.2.1 (by decide)
/-- its Id is stored -/
theorem Sf.putId {c : Nat} {f : Fl} (h : Sf N b s va ab cb vs L w c f W) (id : Int) : Sf N b s va ab cb vs L w c ⟨id, f.topic, f.load⟩ (W.setCell ⟨c, 0, none⟩ (.int .i64 id)) := by
  have hne := h.neb
  refine ⟨⟨?_, kown_kept h.sd.fl fun g hg => Below.heap_setCell _ _ _ _ (fun e => h.nf (by rw [hg]; exact congrArg some e)), ?_, kown_kept h.sd.sent fun g hg => Below.heap_setCell _ _ _ _ (fun e => kown_ne h.sd.sent h.at9 (by decide) (by rw [hg]; exact congrArg some e)), h.sd.bel.setCell h.ge _, h.sd.le, h.sd.ge⟩, ?_, h.nf, h.nq, h.ge⟩
  · have := h.sd.box; unfold NAt at *; rw [Below.heap_setCell _ _ _ _ hne]; exact this
  · rcases h.sd.qu with h0 | ⟨g, o, cur, ha, hN, hn, hg, hc⟩
    · exact .inl h0
    · by_cases hq : s.qu = []
      · exact .inl hq
      · have hgc := h.nq g o ha hq
        have hk : (W.setCell ⟨c, 0, none⟩ (.int .i64 id)).heap[g]? = W.heap[g]? := Below.heap_setCell _ _ _ _ hgc
        refine .inr ⟨g, o, cur, ha, hN, hn, by rw [hk]; exact hg, fun i hi => ?_⟩
        rw [World.cell?_of_block (w := W) (a := ⟨g, _, none⟩) hk, World.cell?_of_block (w := W) (a := ⟨g, _, none⟩) hk, World.cell?_of_block (w := W) (a := ⟨g, _, none⟩) hk]
        exact hc i hi
  · have := h.at9; simp [World.setCell, Array.getElem?_modify, this]
theorem Sf.box_other {c : Nat} {f : Fl} (h : Sf N b s va ab cb vs L w c f W) (o : Nat) (x : Value) : (W.setCell ⟨b, o, none⟩ x).heap[c]? = some (.cells #[.int .i64 f.id, .string f.topic, .string f.load] 46 (0, 0)) := by
  rw [Below.heap_setCell _ _ _ _ (fun e => h.neb (Eq.symm e))]; exact h.at9
/-- Next is stored -/
theorem Sf.putNext {c : Nat} {f : Fl} (h : Sf N b s va ab cb vs L w c f W) (n : Int) : Sf N b { s with next := n } va ab cb vs L w c f (W.setCell ⟨b, 5, none⟩ (.int .i64 n)) :=
  ⟨h.sd.put 5 _ (by have := h.sd.box; unfold NAt at *; simp [World.setCell, Array.getElem?_modify, this]) h.sd.fl h.sd.qu h.sd.sent h.sd.ge, h.box_other _ _, h.nf, h.nq, h.ge⟩
/-- the Queue is stored -/
theorem Sf.putQu {c : Nat} {f : Fl} (h : Sf N b s va ab cb vs L w c f W) (q : List Fl) (a' : Option Addr) (c' : Nat) (hq : Qv N W va a' q) (hn : ∀ g o, a' = some ⟨g, o, none⟩ → q ≠ [] → g ≠ c) (hc : q.length ≤ c') : Sf N b { s with qu := q } va a' c' vs L w c f (W.setCell ⟨b, 4, none⟩ (.slice a' q.length c')) :=
  ⟨h.sd.put 4 _ (by have := h.sd.box; unfold NAt at *; simp [World.setCell, Array.getElem?_modify, this]) h.sd.fl hq h.sd.sent hc, h.box_other _ _, h.nf, hn, h.ge⟩
/-- a flight more flies, and the row's new value is stored -/
theorem Sf.putFl {c : Nat} {f : Fl} (h : Sf N b s va ab cb vs L w c f W) (hg : W.grownBy W' va.ownBlock) {g cap : Nat} {fl : List Fl} {n : Nat} (hn : n = fl.length) (hown : W'.ownsRow N 46 3 (.slice (some ⟨g, 0, none⟩) n cap) fl.length (flCells fl)) (hat : va.ownBlock = some g ∨ g = W.heap.size) :
    Sf N b { s with fl := fl } (.slice (some ⟨g, 0, none⟩) n cap) ab cb vs L w c f (W'.setCell ⟨b, 3, none⟩ (.slice (some ⟨g, 0, none⟩) n cap)) := by
  obtain ⟨b1, s1, bel1, k1⟩ := h.sd.flMore hg
  have hcl := (Array.getElem?_eq_some_iff.1 h.at9).1
  have hgc : g ≠ c := by
    rcases hat with hat | hat
    · intro e; subst e; exact h.nf hat
    · omega
  have hne := h.neb
  have hc9 : W'.heap[c]? = W.heap[c]? := hg.block c hcl (fun e => h.nf e.symm)
  refine ⟨⟨?_, ?_, ?_, ?_, bel1.setCell h.sd.le _, h.sd.le, h.sd.ge⟩, ?_, fun e => hgc (by simpa [Value.ownBlock] using e), h.nq, h.ge⟩
  · subst hn; unfold NAt at *; simp [World.setCell, Array.getElem?_modify, b1]
  · exact kown_kept hown fun x hx => Below.heap_setCell _ _ _ _ (fun e => kown_ne hown b1 (by decide) (by rw [hx]; exact congrArg some e))
  · rcases h.sd.qu with h0 | ⟨gq, o, cur, ha, hN, hnn, hgg, hc⟩
    · exact .inl h0
    · have hb : gq ≠ b := fun e => by
        subst e
        have := h.sd.box; unfold NAt at this
        rw [this] at hgg
        simp only [Option.some.injEq, Obj.cells.injEq] at hgg
        exact absurd hgg.2.1 (by decide)
      have hgq : (W'.setCell ⟨b, 3, none⟩ (.slice (some ⟨g, 0, none⟩) n cap)).heap[gq]? = W.heap[gq]? := (Below.heap_setCell _ _ _ _ hb).trans (k1 gq cur hnn hgg)
      have hql := (Array.getElem?_eq_some_iff.1 hgg).1
      refine .inr ⟨gq, o, cur, ha, hN, fun e => ?_, by rw [hgq]; exact hgg, fun i hi => ?_⟩
      · have e' : g = gq := by simpa [Value.ownBlock] using e
        rcases hat with hat | hat
        · exact hnn (by rw [hat, e'])
        · omega
      · rw [World.cell?_of_block (w := W) (a := ⟨gq, _, none⟩) hgq, World.cell?_of_block (w := W) (a := ⟨gq, _, none⟩) hgq, World.cell?_of_block (w := W) (a := ⟨gq, _, none⟩) hgq]
        exact hc i hi
  · exact kown_kept s1 fun x hx => Below.heap_setCell _ _ _ _ (fun e => kown_ne s1 b1 (by decide) (by rw [hx]; exact congrArg some e))
  · rw [Below.heap_setCell _ _ _ _ (fun e => hne (Eq.symm e)), hc9]; exact h.at9
end
end Go.Proofs.YtnhcecgmcmcioaaDoor
