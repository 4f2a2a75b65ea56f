/-
  The reference's sessions under way: their rows lie ahead of N, or are flights'.
-/
import Derived.Test.YtnhcecgmcmcioaaDoorSesHoldBase
namespace Go.Proofs.YtnhcecgmcmcioaaDoor
open Go.RowKit Go.PlainAid

/-- flights that lie ahead of N, or in a block of flights -/
def FlsB (N : Nat) (W : World) (ao : Option Addr) (l : List Fl) : Prop :=
  l = [] ∨ ∃ g o, ao = some ⟨g, o, none⟩ ∧ g < W.heap.size ∧ (g < N ∨ ∃ cur, W.heap[g]? = some (.cells cur 46 (0, 0))) ∧ ∀ i (h : i < l.length), W.cell? ⟨g, o + i * 3, none⟩ = some (.int .i64 l[i].id) ∧ W.cell? ⟨g, o + i * 3 + 1, none⟩ = some (.string l[i].topic) ∧ W.cell? ⟨g, o + i * 3 + 2, none⟩ = some (.string l[i].load)
section
variable {N M : Nat} {W W' : World} {ao : Option Addr} {l : List Fl}
theorem FlsB.inn (h : FlsB N W ao l) : FlsIn W ao l := by
  rcases h with h | ⟨g, o, ha, hg, _, hc⟩
  · exact .inl h
  · exact .inr ⟨g, o, ha, hg, hc⟩
theorem FlsIn.flsB (h : FlsIn W ao l) : FlsB W.heap.size W ao l := by
  rcases h with h | ⟨g, o, ha, hg, hc⟩
  · exact .inl h
  · exact .inr ⟨g, o, ha, hg, .inl hg, hc⟩
theorem FlsT.flsB (h : FlsT M W ao l) : FlsB N W ao l := by
  rcases h with h | ⟨g, o, cur, ha, _, hg, hc⟩
  · exact .inl h
  · exact .inr ⟨g, o, ha, (Array.getElem?_eq_some_iff.1 hg).1, .inr ⟨cur, hg⟩, hc⟩
theorem FlsB.keep (h : FlsB N W ao l) (hs : W.heap.size ≤ W'.heap.size) (hk : ∀ g, g < W.heap.size → (g < N ∨ ∃ cur, W.heap[g]? = some (.cells cur 46 (0, 0))) → W'.heap[g]? = W.heap[g]?) : FlsB N W' ao l := by
  rcases h with h | ⟨g, o, ha, hg, ht, hc⟩
  · exact .inl h
  · have k1 := hk g hg ht
    refine .inr ⟨g, o, ha, Nat.lt_of_lt_of_le hg hs, by rw [k1]; exact ht, fun i hi => ?_⟩
    rw [World.cell?_of_block (w := W) (a := ⟨g, _, none⟩) k1, World.cell?_of_block (w := W) (a := ⟨g, _, none⟩) k1, World.cell?_of_block (w := W) (a := ⟨g, _, none⟩) k1]
    exact hc i hi
theorem FlsB.below (h : FlsB N W ao l) (hb : Below W.heap.size W W') : FlsB N W' ao l := h.keep hb.size fun g hg _ => hb.block g hg
theorem FlsB.nil : FlsB N W ao [] := .inl rfl
/-- a store into a block of another kind, from N on -/
theorem FlsB.set (h : FlsB N W ao l) {b : Nat} (hN : N ≤ b) {c : Array Value} {t : TypeId} {z : Nat × Nat} (hb : W.heap[b]? = some (.cells c t z)) (ht : t ≠ 46) (o : Nat) (x : Value) : FlsB N (W.setCell ⟨b, o, none⟩ x) ao l :=
  h.keep (by simp [World.setCell]) fun g _ hg => Below.heap_setCell _ _ _ _ (fun e => by
    have e' : g = b := e
    subst e'
    rcases hg with hg | ⟨cur, hg⟩
    · omega
    · rw [hb] at hg
      simp only [Option.some.injEq, Obj.cells.injEq] at hg
      exact ht hg.2.1)
/-- .. six of them -/
theorem FlsB.six (h : FlsB N W ao l) {b : Nat} (hN : N ≤ b) {s : Se} {va vb : Value} (hb : SAt b s va vb W) (v0 v1 v2 v3 v4 v5 : Value) : FlsB N ((((((W.setCell ⟨b, 0, none⟩ v0).setCell ⟨b, 1, none⟩ v1).setCell ⟨b, 2, none⟩ v2).setCell ⟨b, 3, none⟩ v3).setCell ⟨b, 4, none⟩ v4).setCell ⟨b, 5, none⟩ v5) ao l :=
  h.keep (by simp [World.setCell]) fun g _ hg => block_six W (fun e => by
    subst e
    rcases hg with hg | ⟨cur, hg⟩
    · omega
    · unfold SAt at hb
      rw [hb] at hg
      simp only [Option.some.injEq, Obj.cells.injEq] at hg
      exact absurd hg.2.1 (by decide)) v0 v1 v2 v3 v4 v5
/-- a row of another kind grows -/
theorem FlsB.grown (h : FlsB N W ao l) {M : Nat} {e : TypeId} {k : Nat} {v : Value} {n : Nat} {xs : List Value} (hr : W.ownsRow M e k v n xs) (hM : N ≤ M) (ht : 46 ≠ e) (hg : W.grownBy W' v.ownBlock) : FlsB N W' ao l :=
  h.keep hg.size fun g hgs hgt => hg.block g hgs (fun x => by
    rcases hgt with hgt | ⟨cur, hc⟩
    · have := (kown_at hr x.symm).1; omega
    · exact kown_ne hr hc ht x.symm)
theorem own_flsB {n co : Nat} (h : W.ownsRow M 46 3 (.slice ao n co) n (flCells l)) (hn : n = l.length) : FlsB N W ao l := by
  have h1 := own_fls h hn
  rcases h1 with h1 | ⟨g, o, ha, hg, hc⟩
  · exact .inl h1
  · refine .inr ⟨g, o, ha, hg, .inr ?_, hc⟩
    exact (kown_at h (g := g) (by rw [ha]; rfl)).2
theorem FlsB.here {k : Nat} (h : FlsB N W ao l) (hlt : k < l.length) : ∃ b o, ao = some ⟨b, o, none⟩ ∧ b < W.heap.size ∧ ∀ i (h : i < l.length), W.cell? ⟨b, o + i * 3, none⟩ = some (.int .i64 l[i].id) ∧ W.cell? ⟨b, o + i * 3 + 1, none⟩ = some (.string l[i].topic) ∧ W.cell? ⟨b, o + i * 3 + 2, none⟩ = some (.string l[i].load) := fls_here h.inn hlt
theorem FlsB.tail {g0 o0 cb : Nat} {f : Fl} {q : List Fl} {A : Option Addr} (h : FlsB N W (some ⟨g0, o0, none⟩) (f :: q)) (hc : q.length + 1 ≤ cb) (hA : (if cb = 1 then some (⟨g0, o0, none⟩ : Addr) else some ⟨g0, o0 + 3, none⟩) = A) : FlsB N W A q := by
  by_cases hq : q = []
  · exact .inl hq
  · have h1 : cb ≠ 1 := by have := List.length_pos_iff.2 hq; omega
    rw [if_neg h1] at hA
    rcases h with h | ⟨g, o, ha, hg, hN, hx⟩
    · cases h
    · injection ha with ha
      injection ha with e1 e2 _
      subst e1 e2
      refine .inr ⟨g0, o0 + 3, hA.symm, hg, hN, fun i hi => ?_⟩
      have := hx (i + 1) (by simpa using hi)
      simp only [List.getElem_cons_succ] at this
      rw [show o0 + 3 + i * 3 = o0 + (i + 1) * 3 by omega]
      exact this
theorem fls_in_news (h : FlsIn W ao l) : l.length ≠ 0 → ∃ A, ao = some A ∧ ∀ j u, (flCells l)[j]? = some u → W.cell? (A.add j) = some u := fun hn => by
  rcases h with h | ⟨g, o, ha, _, hc⟩
  · exact absurd (by rw [h]; rfl) hn
  · refine ⟨_, ha, fun j u hu => ?_⟩
    have hlen := flCells_len l
    have hj : j < l.length * 3 := by rw [← hlen]; exact (List.getElem?_eq_some_iff.1 hu).1
    have hi : j / 3 < l.length := by omega
    obtain ⟨q0, q1, q2⟩ := hc (j / 3) hi
    obtain ⟨r0, r1, r2⟩ := flCells_get l (j / 3) hi
    rw [add_at]
    have h3 : j = j / 3 * 3 ∨ j = j / 3 * 3 + 1 ∨ j = j / 3 * 3 + 2 := by omega
    rcases h3 with e | e | e
    · rw [← e] at r0 q0; rw [q0, ← hu, r0]
    · rw [← e] at r1; rw [show o + j = o + j / 3 * 3 + 1 by omega, q1, ← hu, r1]
    · rw [← e] at r2; rw [show o + j = o + j / 3 * 3 + 2 by omega, q2, ← hu, r2]
end

/-- while it goes on: its box, the answer's box, its rows, what was sent -/
structure Ry (N b z : Nat) (s : Se) (a1 : Option Addr) (c1 : Nat) (a2 : Option Addr) (c2 : Nat) (ao : Option Addr) (cs : Nat) (L : List Pk) (w W : World) : Prop where
  box : SAt b s (.slice a1 s.fl.length c1) (.slice a2 s.qu.length c2) W
  zero : SAt z zeroSe (.slice none 0 0) (.slice none 0 0) W
  fl : FlsB N W a1 s.fl
  qu : FlsB N W a2 s.qu
  cq : s.qu.length ≤ c2
  out : W.ownsRow w.heap.size 57 14 (.slice ao L.length cs) L.length (spCells L)
  bel : Below w.heap.size w W
  nw : N ≤ w.heap.size
  le : w.heap.size ≤ b
  lz : b < z
section
variable {N b z : Nat} {s : Se} {a1 a2 ao : Option Addr} {c1 c2 cs : Nat} {L : List Pk} {w W W' : World}
theorem Ry.step (h : Ry N b z s a1 c1 a2 c2 ao cs L w W) (hb : Below W.heap.size W W') : Ry N b z s a1 c1 a2 c2 ao cs L w W' :=
  ⟨h.box.after hb, h.zero.after hb, h.fl.below hb, h.qu.below hb, h.cq, kown_below h.out hb, below_step h.bel hb, h.nw, h.le, h.lz⟩
theorem Ry.alloc (h : Ry N b z s a1 c1 a2 c2 ao cs L w W) (o : Obj) : Ry N b z s a1 c1 a2 c2 ao cs L w (W.alloc o) := h.step ((Below.refl _ W).alloc (Nat.le_refl _) o)
theorem Ry.drewN (h : Ry N b z s a1 c1 a2 c2 ao cs L w W) (n : Nat) : Ry N b z s a1 c1 a2 c2 ao cs L w (W.drewN n) := h.step (kbelow_drewN (Below.refl _ _) n)
/-- a store into its box -/
theorem Ry.put (h : Ry N b z s a1 c1 a2 c2 ao cs L w W) (o : Nat) (x : Value) {s' : Se} {x1 x2 : Option Addr} {y1 y2 : Nat} (hbox : SAt b s' (.slice x1 s'.fl.length y1) (.slice x2 s'.qu.length y2) (W.setCell ⟨b, o, none⟩ x)) (f1 : FlsB N W x1 s'.fl) (f2 : FlsB N W x2 s'.qu) (k2 : s'.qu.length ≤ y2) : Ry N b z s' x1 y1 x2 y2 ao cs L w (W.setCell ⟨b, o, none⟩ x) := by
  have hb := h.box
  have hN : N ≤ b := Nat.le_trans h.nw h.le
  refine ⟨hbox, ?_, f1.set hN hb (by decide) o x, f2.set hN hb (by decide) o x, k2, kown_kept h.out fun g hg => Below.heap_setCell _ _ _ _ (fun e => kown_ne h.out hb (by decide) (by rw [hg]; exact congrArg some e)), h.bel.setCell h.le _, h.nw, h.le, h.lz⟩
  have hz := h.zero
  have hne : z ≠ b := by have := h.lz; omega
  unfold SAt at *; rw [Below.heap_setCell _ _ _ _ hne]; exact hz
theorem Ry.putNext (h : Ry N b z s a1 c1 a2 c2 ao cs L w W) (n : Int) : Ry N b z { s with next := n } a1 c1 a2 c2 ao cs L w (W.setCell ⟨b, 5, none⟩ (.int .i64 n)) :=
  h.put 5 _ (by have := h.box; unfold SAt at *; simp [World.setCell, Array.getElem?_modify, this]) h.fl h.qu h.cq
theorem Ry.putOn (h : Ry N b z s a1 c1 a2 c2 ao cs L w W) (v : Bool) : Ry N b z { s with on := v } a1 c1 a2 c2 ao cs L w (W.setCell ⟨b, 1, none⟩ (.bool v)) :=
  h.put 1 _ (by have := h.box; unfold SAt at *; simp [World.setCell, Array.getElem?_modify, this]) h.fl h.qu h.cq
theorem Ry.putFl (h : Ry N b z s a1 c1 a2 c2 ao cs L w W) {fl : List Fl} {n : Nat} (hn : n = fl.length) {x1 : Option Addr} {y1 : Nat} (hf : FlsB N W x1 fl) : Ry N b z { s with fl := fl } x1 y1 a2 c2 ao cs L w (W.setCell ⟨b, 3, none⟩ (.slice x1 n y1)) := by
  subst hn
  exact h.put 3 _ (by have := h.box; unfold SAt at *; simp [World.setCell, Array.getElem?_modify, this]) hf h.qu h.cq
theorem Ry.putQu (h : Ry N b z s a1 c1 a2 c2 ao cs L w W) {qu : List Fl} {n : Nat} (hn : n = qu.length) {x2 : Option Addr} {y2 : Nat} (hq : FlsB N W x2 qu) (hc : qu.length ≤ y2) : Ry N b z { s with qu := qu } a1 c1 x2 y2 ao cs L w (W.setCell ⟨b, 4, none⟩ (.slice x2 n y2)) := by
  subst hn
  exact h.put 4 _ (by have := h.box; unfold SAt at *; simp [World.setCell, Array.getElem?_modify, this]) h.fl hq hc
/-- what was sent has grown -/
theorem Ry.grown (h : Ry N b z s a1 c1 a2 c2 ao cs L w W) (hg : W.grownBy W' (Value.slice ao L.length cs).ownBlock) {L' : List Pk} {n : Nat} (hn : n = L'.length) {ao' : Option Addr} {cs' : Nat} (hown : W'.ownsRow w.heap.size 57 14 (.slice ao' n cs') n (spCells L')) : Ry N b z s a1 c1 a2 c2 ao' cs' L' w W' :=
  ⟨h.box.grown h.out (by decide) hg, h.zero.grown h.out (by decide) hg, h.fl.grown h.out h.nw (by decide) hg, h.qu.grown h.out h.nw (by decide) hg, h.cq, by subst hn; exact hown, Below.grown h.bel hg h.bel.size (fun g hgg => (kown_at h.out hgg).1), h.nw, h.le, h.lz⟩
end
theorem ry_new (s : Se) (a1 : Option Addr) (c1 : Nat) (a2 : Option Addr) (c2 : Nat) (N : Nat) (w : World) (h1 : FlsB N w a1 s.fl) (h2 : FlsB N w a2 s.qu) (hq : s.qu.length ≤ c2) (hN : N ≤ w.heap.size) :
    Ry N w.heap.size (w.heap.size + 1) s a1 c1 a2 c2 none 0 [] w ((w.alloc (.cells #[.string s.client, .bool s.on, .bool s.clean, .slice a1 s.fl.length c1, .slice a2 s.qu.length c2, .int .i64 s.next] 24)).alloc (.cells #[.string ⟨#[]⟩, .bool false, .bool false, .slice none 0 0, .slice none 0 0, .int .i64 0] 24)) := by
  have hb : Below w.heap.size w ((w.alloc (.cells #[.string s.client, .bool s.on, .bool s.clean, .slice a1 s.fl.length c1, .slice a2 s.qu.length c2, .int .i64 s.next] 24)).alloc (.cells #[.string ⟨#[]⟩, .bool false, .bool false, .slice none 0 0, .slice none 0 0, .int .i64 0] 24)) := ((Below.refl _ _).alloc (Nat.le_refl _) _).alloc (by simp) _
  refine ⟨?_, ?_, h1.below hb, h2.below hb, hq, World.ownsRow_nil _ _ _ _, hb, hN, Nat.le_refl _, Nat.lt_succ_self _⟩
  · show _ = _; rw [Below.heap_alloc _ _ _ (by simp)]; exact sat_new s _ _ w
  · have := sat_new zeroSe (.slice none 0 0) (.slice none 0 0) (w.alloc (.cells #[.string s.client, .bool s.on, .bool s.clean, .slice a1 s.fl.length c1, .slice a2 s.qu.length c2, .int .i64 s.next] 24))
    simp only [World.size_alloc] at this
    exact this

/-- what the reference answers: a session, and packets -/
def FPost (N : Nat) (R : Se × List Pk) (w : World) (e : Ending) (w' : World) : Prop :=
  ∃ a1 c1 a2 c2 ao cs, e = .returned (.tuple #[.agg #[.string R.1.client, .bool R.1.on, .bool R.1.clean, .slice a1 R.1.fl.length c1, .slice a2 R.1.qu.length c2, .int .i64 R.1.next], .slice ao R.2.length cs]) ∧ FlsB N w' a1 R.1.fl ∧ FlsB N w' a2 R.1.qu ∧ R.1.qu.length ≤ c2 ∧ w'.ownsRow w.heap.size 57 14 (.slice ao R.2.length cs) R.2.length (spCells R.2) ∧ Below w.heap.size w w'
/-- .. and it is so behind the answer's six stores -/
theorem Ry.done {N b z : Nat} {s : Se} {a1 a2 ao : Option Addr} {c1 c2 cs : Nat} {L : List Pk} {w W : World} (h : Ry N b z s a1 c1 a2 c2 ao cs L w W) {s' : Se} {x1 x2 : Option Addr} {y2 : Nat} (f1 : FlsB N W x1 s'.fl) (f2 : FlsB N W x2 s'.qu) (k2 : s'.qu.length ≤ y2) {L' : List Pk} {ao' : Option Addr} {cs' : Nat} (hown : W.ownsRow w.heap.size 57 14 (.slice ao' L'.length cs') L'.length (spCells L')) (v0 v1 v2 v3 v4 v5 : Value) :
    let W' := ((((((W.setCell ⟨z, 0, none⟩ v0).setCell ⟨z, 1, none⟩ v1).setCell ⟨z, 2, none⟩ v2).setCell ⟨z, 3, none⟩ v3).setCell ⟨z, 4, none⟩ v4).setCell ⟨z, 5, none⟩ v5)
    FlsB N W' x1 s'.fl ∧ FlsB N W' x2 s'.qu ∧ s'.qu.length ≤ y2 ∧ W'.ownsRow w.heap.size 57 14 (.slice ao' L'.length cs') L'.length (spCells L') ∧ Below w.heap.size w W' := by
  have hwz : w.heap.size ≤ z := by have := h.le; have := h.lz; omega
  have hNz : N ≤ z := Nat.le_trans h.nw hwz
  exact ⟨f1.six hNz h.zero v0 v1 v2 v3 v4 v5, f2.six hNz h.zero v0 v1 v2 v3 v4 v5, k2, kown_kept hown fun g hg => block_six W (fun e => kown_ne hown h.zero (by decide) (by rw [hg, e])) v0 v1 v2 v3 v4 v5, ssix_below h.bel hwz v0 v1 v2 v3 v4 v5⟩
end Go.Proofs.YtnhcecgmcmcioaaDoor
