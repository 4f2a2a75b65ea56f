/-
  The reference's CheckPacket: what it answers.
-/
import Derived.Test.YtnjdpibgfbbkcabGreatDoorRefPkCk1
import Derived.Test.YtnjdpibgfbbkcabGreatDoorRefPkCk3
import Derived.Test.YtnjdpibgfbbkcabGreatDoorRefPkCk4
import Derived.Test.YtnjdpibgfbbkcabGreatDoorRefPkCk5
import Derived.Test.YtnjdpibgfbbkcabGreatDoorRefPkCk6
import Derived.Test.YtnjdpibgfbbkcabGreatDoorRefPkCk7
import Derived.Test.YtnjdpibgfbbkcabGreatDoorRefPkOfTold
import Derived.Test.YtnjdpibgfbbkcabGreatDoorRefPkBytes
import Derived.BigRegion
import Derived.Deep.AppendLies
import Derived.Deep.RegionLaw
import Derived.Deep.RegionHeld3
import Derived.Deep.LoopGhost
namespace Go.Proofs.YtnjdpibgfbbkcabGreatDoor
open Go.RowKit Go.PlainAid

theorem t3_no {p : Pk} (h : t3 p = false) : (¬ (3 ≤ p.kind ∧ p.kind ≤ 4) → ¬ (8 ≤ p.kind ∧ p.kind ≤ 11) → p.id = 0) ∧ (p.kind ≠ 8 → p.kind ≠ 10 → p.asks = []) ∧ (p.kind ≠ 9 → p.codes = []) := by
  simp only [t3, Bool.or_eq_false_iff, Bool.and_eq_false_iff, Bool.not_eq_false', Bool.and_eq_true, decide_eq_true_eq, decide_eq_false_iff_not, bne_eq_false_iff_eq] at h
  obtain ⟨⟨h1, h2⟩, h3⟩ := h
  refine ⟨fun a b => ?_, fun a b => ?_, fun a => ?_⟩
  · rcases h1 with (h1 | h1) | h1
    · exact absurd h1 a
    · exact absurd h1 b
    · exact h1
  · rcases h2 with (h2 | h2) | h2
    · exact absurd h2 a
    · exact absurd h2 b
    · exact List.length_eq_zero_iff.1 (by omega)
  · rcases h3 with h3 | h3
    · exact absurd h3 a
    · exact List.length_eq_zero_iff.1 (by omega)
set_option maxHeartbeats 4000000 in
set_option maxRecDepth 100000 in
theorem rckP_kind (p : Pk) (aa ac : Option Addr) (ca cc : Nat) (w : World) (h : kindB p.kind = false) :
    Calls Tryz.prog 25 #[pkV p aa ca ac cc] w fun e w' => e = .returned (.int .i64 7) ∧ Below w.heap.size w w' := by
  have hk0 : ¬ (1 ≤ p.kind ∧ p.kind ≤ 4 ∨ 8 ≤ p.kind ∧ p.kind ≤ 14) := by simpa [kindB] using h
  clear h
  obtain ⟨k, d, r, c, s, q, i, kp, cd, cl, tp, pl, sa, cs⟩ := p
  simp only at hk0
  simp only [pkV]
  go_enter Tryz.func25, Tryz.ntmps25
  go_wp2_with (go_at_call 21; refine (between_no _ _ _ _ (by omega)).mono ?_; rintro e w1 ⟨rfl, rfl⟩)
  go_ret
  exact ⟨rfl, (Below.refl _ _).alloc (Nat.le_refl _) _⟩
theorem rckP_any (p : Pk) (aa ac : Option Addr) (ca cc : Nat) (w : World) (hp : PkIn w p aa ac) (ht : p.topic.size ≤ 1048576) (ha : ∀ a ∈ p.asks, a.1.size ≤ 1048576) :
    Calls Tryz.prog 25 #[pkV p aa ca ac cc] w fun e w' => e = .returned (.int .i64 (chkP p)) ∧ Below w.heap.size w w' := by
  cases hkB : kindB p.kind with
  | false => rw [show chkP p = 7 from if_pos hkB]; exact rckP_kind p aa ac ca cc w hkB
  | true =>
    rw [chk_tail hkB]
    cases h1 : t1 p with
    | true => rw [Bool.true_or, Bool.true_or, if_pos rfl]; exact rckP_one p aa ac ca cc w hkB h1
    | false =>
      cases h2 : t2 p with
      | true => rw [Bool.or_true, Bool.true_or, if_pos rfl]; exact rckP_two p aa ac ca cc w hkB h1 h2
      | false =>
        cases h3 : t3 p with
        | true => rw [Bool.or_true, if_pos rfl]; exact rckP_three p aa ac ca cc w hkB h1 h2 h3
        | false =>
          rw [if_neg (by decide)]
          have n1 := t1_no h1
          have n2 := t2_no h2
          have n3 := t3_no h3
          clear h1 h2 h3
          obtain ⟨k, d, r, c, s, q, i, kp, cd, cl, tp, pl, sa, cs⟩ := p
          simp only at n1 n2 n3 hkB ht ha
          obtain ⟨hpa, hpc⟩ := hp
          simp only at hpa hpc
          rcases kinds hkB with h | h | h | h | h | h | h | h | h | h | h
          · subst h
            obtain ⟨e1, e2⟩ := n1.2 (by decide)
            obtain ⟨e3, e4, e5, e6, e7⟩ := n2 (by decide)
            have e8 := n3.1 (by decide) (by decide)
            have e9 := n3.2.1 (by decide) (by decide)
            have e10 := n3.2.2 (by decide)
            subst e1 e2 e3 e4 e5 e6 e7 e8 e9 e10
            exact rckP_k1 c kp cl aa ac ca cc w
          · subst h
            obtain ⟨e1, e2, e0⟩ := n1.1 (by decide)
            obtain ⟨e3, e4, e5, e6, e7⟩ := n2 (by decide)
            have e8 := n3.1 (by decide) (by decide)
            have e9 := n3.2.1 (by decide) (by decide)
            have e10 := n3.2.2 (by decide)
            subst e0 e1 e2 e3 e4 e5 e6 e7 e8 e9 e10
            exact rckP_k2 s cd aa ac ca cc w
          · subst h
            obtain ⟨e1, e2, e0⟩ := n1.1 (by decide)
            obtain ⟨e3, e4⟩ := n1.2 (by decide)
            have e9 := n3.2.1 (by decide) (by decide)
            have e10 := n3.2.2 (by decide)
            subst e0 e1 e2 e3 e4 e9 e10
            exact rckP_k3 d r q i tp pl aa ac ca cc w ht
          all_goals
            subst h
            obtain ⟨e1, e2, e0⟩ := n1.1 (by decide)
            obtain ⟨f1, f2⟩ := n1.2 (by decide)
            obtain ⟨e3, e4, e5, e6, e7⟩ := n2 (by decide)
            subst e0 e1 e2 f1 f2 e3 e4 e5 e6 e7
          · have e9 := n3.2.1 (by decide) (by decide)
            have e10 := n3.2.2 (by decide)
            subst e9 e10
            have e : tailE ⟨4, false, false, false, false, 0, i, 0, 0, ⟨#[]⟩, ⟨#[]⟩, ⟨#[]⟩, [], []⟩ = idE i := by
              show (if idE i ≠ 0 then idE i else 0) = idE i
              by_cases hh : idE i = 0
              · rw [if_neg (by simp [hh]), hh]
              · rw [if_pos hh]
            rw [e]
            exact rckP_k4 i aa ac ca cc w
          · have e10 := n3.2.2 (by decide)
            subst e10
            exact rckP_k8 i sa aa ac ca cc w hpa ha
          · have e9 := n3.2.1 (by decide) (by decide)
            subst e9
            exact rckP_k9 i cs aa ac ca cc w hpc
          · have e10 := n3.2.2 (by decide)
            subst e10
            exact rckP_k10 i sa aa ac ca cc w hpa ha
          · have e9 := n3.2.1 (by decide) (by decide)
            have e10 := n3.2.2 (by decide)
            subst e9 e10
            have e : tailE ⟨11, false, false, false, false, 0, i, 0, 0, ⟨#[]⟩, ⟨#[]⟩, ⟨#[]⟩, [], []⟩ = idE i := by
              show (if idE i ≠ 0 then idE i else 0) = idE i
              by_cases hh : idE i = 0
              · rw [if_neg (by simp [hh]), hh]
              · rw [if_pos hh]
            rw [e]
            exact rckP_k11 i aa ac ca cc w
          · have e8 := n3.1 (by decide) (by decide)
            have e9 := n3.2.1 (by decide) (by decide)
            have e10 := n3.2.2 (by decide)
            subst e8 e9 e10
            exact rckP_k12 aa ac ca cc w
          · have e8 := n3.1 (by decide) (by decide)
            have e9 := n3.2.1 (by decide) (by decide)
            have e10 := n3.2.2 (by decide)
            subst e8 e9 e10
            exact rckP_k13 aa ac ca cc w
          · have e8 := n3.1 (by decide) (by decide)
            have e9 := n3.2.1 (by decide) (by decide)
            have e10 := n3.2.2 (by decide)
            subst e8 e9 e10
            exact rckP_k14 aa ac ca cc w
end Go.Proofs.YtnjdpibgfbbkcabGreatDoor
/-
  The reference's PacketOf: what all kinds want.
-/
namespace Go.Proofs.YtnjdpibgfbbkcabGreatDoor
open Go.RowKit Go.PlainAid Go.Deep

def OfPost (s : ByteArray) (w : World) : Ending → World → Prop := fun e w' => ∃ aa ca ac cc, e = .returned (.tuple #[pkV (decP s) aa ca ac cc, .int .i64 (decE s)]) ∧ PkInB w.heap.size w' (decP s) aa ac ∧ Below w.heap.size w w'
theorem OfPost.mk {s : ByteArray} {w w' : World} {q : Pk} {E : Int} {aa ac : Option Addr} {ca cc : Nat} {e : Ending} (hP : decP s = q) (hE : decE s = E) (he : e = .returned (.tuple #[pkV q aa ca ac cc, .int .i64 E])) (h : PkInB w.heap.size w' q aa ac ∧ Below w.heap.size w w') : OfPost s w e w' :=
  ⟨aa, ca, ac, cc, by rw [hP, hE, he], by rw [hP]; exact h.1, h.2⟩

/-- where PacketOf has begun: a packet for the answer, one that is read into, a Taker -/
structure Po (w : World) (s : ByteArray) (p : Pk) (va vc : Value) (n : Nat) (bad : Bool) (W : World) : Prop where
  zero : PAt w.heap.size zeroPk (.slice none 0 0) (.slice none 0 0) W
  pack : PAt (w.heap.size + 1) p va vc W
  take : Tk (w.heap.size + 1 + 1) s n bad W
  below : Below w.heap.size w W
  size : w.heap.size + 1 + 1 + 1 ≤ W.heap.size

theorem po_start (w : World) (s : ByteArray) (k : Int) (u : Nat) : Po w s { zeroPk with kind := k } (.slice none 0 0) (.slice none 0 0) (1 + u) false (((w.alloc (.cells #[.int .i64 0, .bool false, .bool false, .bool false, .bool false, .int .i64 0, .int .i64 0, .int .i64 0, .int .i64 0, .string ⟨#[]⟩, .string ⟨#[]⟩, .string ⟨#[]⟩, .slice none 0 0, .slice none 0 0] 35)).alloc (.cells #[.int .i64 k, .bool false, .bool false, .bool false, .bool false, .int .i64 0, .int .i64 0, .int .i64 0, .int .i64 0, .string ⟨#[]⟩, .string ⟨#[]⟩, .string ⟨#[]⟩, .slice none 0 0, .slice none 0 0] 35)).alloc (.cells #[.string s, .int .i64 (1 + (u : Int)), .bool false] 52)) := by
  refine ⟨?_, ?_, ?_, ((((Below.refl w.heap.size w).alloc (Nat.le_refl _) _).alloc (by simp) _).alloc (by simp; omega) _), by simp⟩
  · show _ = _
    rw [Below.heap_alloc _ _ _ (by simp; omega), Below.heap_alloc _ _ _ (by simp)]
    exact Go.heap_alloc_new w _
  · show _ = _
    rw [Below.heap_alloc _ _ _ (by simp)]
    have := Go.heap_alloc_new (w.alloc (.cells #[.int .i64 0, .bool false, .bool false, .bool false, .bool false, .int .i64 0, .int .i64 0, .int .i64 0, .int .i64 0, .string ⟨#[]⟩, .string ⟨#[]⟩, .string ⟨#[]⟩, .slice none 0 0, .slice none 0 0] 35)) (.cells #[.int .i64 k, .bool false, .bool false, .bool false, .bool false, .int .i64 0, .int .i64 0, .int .i64 0, .int .i64 0, .string ⟨#[]⟩, .string ⟨#[]⟩, .string ⟨#[]⟩, .slice none 0 0, .slice none 0 0] 35)
    simp only [World.size_alloc] at this
    exact this
  · show _ = _
    have := Go.heap_alloc_new ((w.alloc (.cells #[.int .i64 0, .bool false, .bool false, .bool false, .bool false, .int .i64 0, .int .i64 0, .int .i64 0, .int .i64 0, .string ⟨#[]⟩, .string ⟨#[]⟩, .string ⟨#[]⟩, .slice none 0 0, .slice none 0 0] 35)).alloc (.cells #[.int .i64 k, .bool false, .bool false, .bool false, .bool false, .int .i64 0, .int .i64 0, .int .i64 0, .int .i64 0, .string ⟨#[]⟩, .string ⟨#[]⟩, .string ⟨#[]⟩, .slice none 0 0, .slice none 0 0] 35)) (.cells #[.string s, .int .i64 (1 + (u : Int)), .bool false] 52)
    simp only [World.size_alloc] at this
    rw [show (((1 + u : Nat) : Nat) : Int) = 1 + (u : Int) by omega]
    exact this

/-- behind what a Taker's call left as it was -/
theorem Po.took {w : World} {s : ByteArray} {p : Pk} {va vc : Value} {n m : Nat} {b c : Bool} {W W' : World} (h : Po w s p va vc n b W) (ht : Tk (w.heap.size + 1 + 1) s m c W') (hk : Kx (w.heap.size + 1 + 1) (w.heap.size + 1 + 1) W W') : Po w s p va vc m c W' := by
  have hs := h.size
  refine ⟨?_, ?_, ht, h.below.trans (hk.below (by omega) (by omega) (by omega)), Nat.le_trans hs hk.size⟩
  · have := h.zero; unfold PAt at *; show _ = _; rw [hk.block _ (by omega) (by omega) (by omega)]; exact this
  · have := h.pack; unfold PAt at *; show _ = _; rw [hk.block _ (by omega) (by omega) (by omega)]; exact this
theorem Po.pat {w : World} {s : ByteArray} {p q : Pk} {va vc wa wc : Value} {n : Nat} {b : Bool} {W : World} (h : Po w s p va vc n b W) (o : Nat) (v : Value) (hq : PAt (w.heap.size + 1) q wa wc (W.setCell ⟨w.heap.size + 1, o, none⟩ v)) : Po w s q wa wc n b (W.setCell ⟨w.heap.size + 1, o, none⟩ v) := by
  have hs := h.size
  refine ⟨?_, hq, h.take.other (by omega) _ _, h.below.setCell (by show w.heap.size ≤ w.heap.size + 1; omega) _, by simp [World.setCell]; omega⟩
  have := h.zero; unfold PAt at *; show _ = _; rw [Below.heap_setCell _ _ _ _ (by show w.heap.size ≠ w.heap.size + 1; omega)]; exact this
theorem Po.keep {w : World} {s : ByteArray} {p : Pk} {va vc : Value} {n : Nat} {b : Bool} {W W' : World} (h : Po w s p va vc n b W) (hb : Below W.heap.size W W') : Po w s p va vc n b W' := by
  have hs := h.size
  refine ⟨?_, ?_, h.take.below hb, below_step h.below hb, Nat.le_trans hs hb.size⟩
  · have := h.zero; unfold PAt at *; show _ = _; rw [hb.block _ (by omega)]; exact this
  · have := h.pack; unfold PAt at *; show _ = _; rw [hb.block _ (by omega)]; exact this
theorem kx14 (b : Nat) (W : World) (v0 v1 v2 v3 v4 v5 v6 v7 v8 v9 v10 v11 v12 v13 : Value) : Kx b b W ((((((((((((((W.setCell ⟨b, 0, none⟩ v0).setCell ⟨b, 1, none⟩ v1).setCell ⟨b, 2, none⟩ v2).setCell ⟨b, 3, none⟩ v3).setCell ⟨b, 4, none⟩ v4).setCell ⟨b, 5, none⟩ v5).setCell ⟨b, 6, none⟩ v6).setCell ⟨b, 7, none⟩ v7).setCell ⟨b, 8, none⟩ v8).setCell ⟨b, 9, none⟩ v9).setCell ⟨b, 10, none⟩ v10).setCell ⟨b, 11, none⟩ v11).setCell ⟨b, 12, none⟩ v12).setCell ⟨b, 13, none⟩ v13) := by
  repeat (first | refine Kx.trans ?_ (Kx.set _ _ _ _ _) | exact Kx.refl _ _ _)
theorem po_zero {w W W' : World} (hb : Below w.heap.size w W) (hs : w.heap.size ≤ W.heap.size) (hk : Kx w.heap.size w.heap.size W W') : PkInB w.heap.size W' zeroPk none none ∧ Below w.heap.size w W' :=
  ⟨⟨zero_in W', .inl rfl, .inl rfl⟩, hb.trans (hk.below hs (Nat.le_refl _) (Nat.le_refl _))⟩
theorem po_final {w W W' : World} {q : Pk} {aa ac : Option Addr} (h : PkInB (w.heap.size + 1) W q aa ac) (hb : Below w.heap.size w W) (hs : w.heap.size ≤ W.heap.size) (hk : Kx w.heap.size w.heap.size W W') : PkInB w.heap.size W' q aa ac ∧ Below w.heap.size w W' :=
  ⟨h.keep (by omega) hk.size (fun k h1 h2 => hk.block k h2 (by omega) (by omega)), hb.trans (hk.below hs (Nat.le_refl _) (Nat.le_refl _))⟩
theorem fit_small {p : Pk} (h : FitP p) : p.topic.size ≤ 1048576 ∧ ∀ a ∈ p.asks, a.1.size ≤ 1048576 := by
  refine ⟨?_, fun a ha => by have := (h.asks a ha).1; omega⟩
  by_cases h3 : p.kind = 3
  · have := (h.pub h3).1; omega
  · have hz := (bareB_ok h.bare).2.2.2.2.2.2.2.2.2.1
    have : (wn p).topic = p.topic := by
      unfold wn
      (repeat' split) <;> first | rfl | (exfalso; omega)
    rw [← this, hz]; decide
theorem str_some {s : ByteArray} (h : 0 < s.size) : s.toList.isEmpty = false := by
  have e : s.data.toList.length = s.size := by simp
  rw [ByteArray.toList_eq]
  cases h' : s.data.toList with
  | nil => rw [h'] at e; simp at e; omega
  | cons a l => rfl
end Go.Proofs.YtnjdpibgfbbkcabGreatDoor
/-
  The reference's PacketOf: the rows of codes and of asks that it makes by append.
-/
namespace Go.Proofs.YtnjdpibgfbbkcabGreatDoor
open Go.RowKit Go.PlainAid Go.Deep

/-- where PacketOf reads: the packet's own list has the value vc, the row of what was read v -/
structure Pl (w : World) (s : ByteArray) (p : Pk) (va vc : Value) (e : TypeId) (k : Nat) (v : Value) (m : Nat) (xs : List Value) (n : Nat) (b : Bool) (W : World) : Prop where
  po : Po w s p va vc n b W
  own : W.ownsRow (w.heap.size + 1 + 1 + 1) e k v m xs

theorem Pl.took {w : World} {s : ByteArray} {p : Pk} {va vc : Value} {e : TypeId} {k : Nat} {v : Value} {m : Nat} {xs : List Value} {n n' : Nat} {b b' : Bool} {W W' : World} (h : Pl w s p va vc e k v m xs n b W) (ht : Tk (w.heap.size + 1 + 1) s n' b' W') (hk : Kx (w.heap.size + 1 + 1) (w.heap.size + 1 + 1) W W') : Pl w s p va vc e k v m xs n' b' W' :=
  ⟨h.po.took ht hk, own_kept h.own fun g hg => by have := own_lt h.own g hg; exact hk.block g this.2 (by omega) (by omega)⟩
theorem Pl.drew {w : World} {s : ByteArray} {p : Pk} {va vc : Value} {e : TypeId} {k : Nat} {v : Value} {m : Nat} {xs : List Value} {n : Nat} {b : Bool} {W : World} (h : Pl w s p va vc e k v m xs n b W) : Pl w s p va vc e k v m xs n b W.drew :=
  ⟨⟨h.po.zero, h.po.pack, h.po.take, h.po.below.drew, h.po.size⟩, h.own⟩
theorem Pl.drewN {w : World} {s : ByteArray} {p : Pk} {va vc : Value} {e : TypeId} {k : Nat} {v : Value} {m : Nat} {xs : List Value} {n : Nat} {b : Bool} {W : World} (h : Pl w s p va vc e k v m xs n b W) (q : Nat) : Pl w s p va vc e k v m xs n b (W.drewN q) :=
  ⟨⟨h.po.zero, h.po.pack, h.po.take, below_drewN h.po.below q, h.po.size⟩, h.own⟩
theorem Pl.alloc {w : World} {s : ByteArray} {p : Pk} {va vc : Value} {e : TypeId} {k : Nat} {v : Value} {m : Nat} {xs : List Value} {n : Nat} {b : Bool} {W : World} (h : Pl w s p va vc e k v m xs n b W) (o : Obj) : Pl w s p va vc e k v m xs n b (W.alloc o) :=
  ⟨h.po.keep ((Below.refl _ W).alloc (Nat.le_refl _) o), h.own.alloc o⟩
/-- the row's new value is stored into the packet -/
theorem Pl.put13 {w : World} {s : ByteArray} {p : Pk} {va vc : Value} {e : TypeId} {k : Nat} {v : Value} {m : Nat} {xs : List Value} {n : Nat} {b : Bool} {W : World} (h : Pl w s p va vc e k v m xs n b W) : Pl w s p va v e k v m xs n b (W.setCell ⟨w.heap.size + 1, 13, none⟩ v) :=
  ⟨h.po.pat 13 _ (h.po.pack.set13 v), own_kept h.own fun g hg => Below.heap_setCell _ _ _ _ (by have := own_lt h.own g hg; show g ≠ w.heap.size + 1; omega)⟩
theorem Pl.put12 {w : World} {s : ByteArray} {p : Pk} {va vc : Value} {e : TypeId} {k : Nat} {v : Value} {m : Nat} {xs : List Value} {n : Nat} {b : Bool} {W : World} (h : Pl w s p va vc e k v m xs n b W) : Pl w s p v vc e k v m xs n b (W.setCell ⟨w.heap.size + 1, 12, none⟩ v) :=
  ⟨h.po.pat 12 _ (h.po.pack.set12 v), own_kept h.own fun g hg => Below.heap_setCell _ _ _ _ (by have := own_lt h.own g hg; show g ≠ w.heap.size + 1; omega)⟩
/-- a store into a block of no row that was made behind -/
theorem Pl.other {w : World} {s : ByteArray} {p : Pk} {va vc : Value} {e T : TypeId} {k : Nat} {v : Value} {m : Nat} {xs : List Value} {n : Nat} {b : Bool} {W : World} {c : Nat} {cs : Array Value} {fz : Nat × Nat} (h : Pl w s p va vc e k v m xs n b W) (_hc : W.heap[c]? = some (.cells cs T fz)) (hlt : w.heap.size + 1 + 1 + 1 ≤ c) (hne : v.ownBlock ≠ some c) (o : Nat) (x : Value) : Pl w s p va vc e k v m xs n b (W.setCell ⟨c, o, none⟩ x) := by
  have hs := h.po.size
  have hk : Kx c c W (W.setCell ⟨c, o, none⟩ x) := Kx.set _ _ _ _ _
  refine ⟨⟨?_, ?_, h.po.take.other (by omega) _ _, h.po.below.setCell (by show w.heap.size ≤ c; omega) _, by simp [World.setCell]; omega⟩, own_kept h.own fun g hg => Below.heap_setCell _ _ _ _ (fun e => hne (by rw [hg, e]))⟩
  · have := h.po.zero; unfold PAt at *; show _ = _; rw [hk.block _ (by omega) (by omega) (by omega)]; exact this
  · have := h.po.pack; unfold PAt at *; show _ = _; rw [hk.block _ (by omega) (by omega) (by omega)]; exact this
/-- what an append leaves -/
theorem Pl.grown {w : World} {s : ByteArray} {p : Pk} {va vc : Value} {e : TypeId} {k : Nat} {v v' : Value} {m m' : Nat} {xs xs' : List Value} {n : Nat} {b : Bool} {W W' : World} (h : Pl w s p va vc e k v m xs n b W) (hg : W.grownBy W' v.ownBlock) (ho : W'.ownsRow (w.heap.size + 1 + 1 + 1) e k v' m' xs') : Pl w s p va vc e k v' m' xs' n b W' := by
  have hs := h.po.size
  have hne : ∀ c, c < w.heap.size + 1 + 1 + 1 → W'.heap[c]? = W.heap[c]? := fun c hc => hg.block c (by omega) (fun e => by have := (own_lt h.own c e.symm).1; omega)
  refine ⟨⟨?_, ?_, ?_, Below.grown h.po.below hg (by omega) (fun c hc => by have := (own_lt h.own c hc).1; omega), Nat.le_trans hs hg.size⟩, ho⟩
  · have := h.po.zero; unfold PAt at *; show _ = _; rw [hne _ (by omega)]; exact this
  · have := h.po.pack; unfold PAt at *; show _ = _; rw [hne _ (by omega)]; exact this
  · have := h.po.take; unfold Tk at *; show _ = _; rw [hne _ (by omega)]; exact this

theorem xCodes_end {s : ByteArray} {f n : Nat} {bad : Bool} {l : List Int} (h : ¬ (bad = false ∧ n < s.size)) : xCodes s f n bad l = (l, n, bad) := by
  cases f with
  | zero => rfl
  | succ f => rw [xCodes, if_neg h]
theorem xAsks_end {s : ByteArray} {k : Int} {f n : Nat} {bad : Bool} {l : List (ByteArray × Int)} (h : ¬ (bad = false ∧ n < s.size)) : xAsks s k f n bad l = (l, n, bad) := by
  cases f with
  | zero => rfl
  | succ f => rw [xAsks, if_neg h]

section
variable {ops : Array Oper} {o : Oper} {a : Act} {K : Act → World → Prop} {Q : Exit → Act → World → Prop} {E : Prop} {w W : World} {s : ByteArray} {p : Pk} {va vc v : Value} {n : Nat} {b : Bool}
theorem stepCode (hgd : o.guard = none) (x y : Operand) (ho : o.op = .call { callee := .builtin .append, args := #[x, y], argTypes := #[33, 33] }) (L : List Int)
    (hx : a.eval x = v) (B : Nat) (hy : a.eval y = .slice (some ⟨B, 0, none⟩) 1 1) (hI : Pl w s p va vc 3 1 v L.length (intCells L) n b W) (c : Int) (hB : W.heap[B]? = some (.cells #[.int .i64 c] 3 (0, 0))) (hk : L.length ≤ 1048576)
    (h : ∀ g cap W', Pl w s p va vc 3 1 (.slice (some ⟨g, 0, none⟩) (L.length + 1) cap) (L ++ [c]).length (intCells (L ++ [c])) n b W' → K (a.put o.dst (.slice (some ⟨g, 0, none⟩) (L.length + 1) cap)) W') :
    if Region.wanted o (yielded ops a.tmps) = true then Oper.wp Tryz.prog o a W K Q else E := by
  obtain ⟨i0, hi, hz0, hz1, hz2⟩ := info_parts (show (Tryz.prog.info? 3).map (fun i => (i.zero, i.size, i.bytes)) = some (some (.int .i64 0), 1, 8) by kernel_rfl)
  refine step_append_lies W hgd x y 33 ho (w.heap.size + 1 + 1 + 1) 3 i0 _ 1 8 Tryz.underlying33 hi hz0 hz1 hz2 rfl (by decide) v L.length _ hx hI.own ⟨B, 0, none⟩ 1 1 [.int .i64 c] hy rfl (World.news_of_block hB) (by simp [Value.oneCell']) (by decide) (by unfold maxLen; omega) (by omega) hI.po.size _ rfl ?_
  intro g cap W' hown hgrow hat hlt
  refine h g cap W' (hI.grown hgrow ?_)
  rw [List.length_append, intCells, List.map_append]
  exact hown
theorem stepAsk (hgd : o.guard = none) (x y : Operand) (ho : o.op = .call { callee := .builtin .append, args := #[x, y], argTypes := #[32, 32] }) (L : List (ByteArray × Int))
    (hx : a.eval x = v) (B : Nat) (hy : a.eval y = .slice (some ⟨B, 0, none⟩) 1 1) (hI : Pl w s p va vc 56 2 v L.length (askCells L) n b W) (t : ByteArray) (q : Int) (hB : W.heap[B]? = some (.cells #[.string t, .int .i64 q] 56 (0, 0))) (hk : L.length ≤ 1048576)
    (h : ∀ g cap W', Pl w s p va vc 56 2 (.slice (some ⟨g, 0, none⟩) (L.length + 1) cap) (L ++ [(t, q)]).length (askCells (L ++ [(t, q)])) n b W' → K (a.put o.dst (.slice (some ⟨g, 0, none⟩) (L.length + 1) cap)) W') :
    if Region.wanted o (yielded ops a.tmps) = true then Oper.wp Tryz.prog o a W K Q else E := by
  obtain ⟨i0, hi, hz0, hz1, hz2⟩ := info_parts (show (Tryz.prog.info? 56).map (fun i => (i.zero, i.size, i.bytes)) = some (some (.agg #[.string ⟨#[]⟩, .int .i64 0]), 2, 24) by kernel_rfl)
  refine step_append_lies W hgd x y 32 ho (w.heap.size + 1 + 1 + 1) 56 i0 _ 2 24 Tryz.underlying32 hi hz0 hz1 hz2 rfl (by decide) v L.length _ hx hI.own ⟨B, 0, none⟩ 1 1 [.string t, .int .i64 q] hy rfl (World.news_of_block hB) (by simp [Value.oneCell']) (by decide) (by unfold maxLen; omega) (by omega) hI.po.size _ rfl ?_
  intro g cap W' hown hgrow hat hlt
  refine h g cap W' (hI.grown hgrow ?_)
  rw [List.length_append, askCells_append]
  exact hown
end
section
variable {ops : Array Oper} {o : Oper} {rest : List Oper} {a : Act} {Q : Exit → Act → World → Prop} {w W : World} {s : ByteArray} {p : Pk} {va vc v : Value} {n : Nat} {b : Bool}
theorem wpAsk (hgd : o.guard = none) (x y : Operand) (ho : o.op = .call { callee := .builtin .append, args := #[x, y], argTypes := #[32, 32] }) (L : List (ByteArray × Int))
    (hx : a.eval x = v) (B : Nat) (hy : a.eval y = .slice (some ⟨B, 0, none⟩) 1 1) (hI : Pl w s p va vc 56 2 v L.length (askCells L) n b W) (t : ByteArray) (q : Int) (hB : W.heap[B]? = some (.cells #[.string t, .int .i64 q] 56 (0, 0))) (hk : L.length ≤ 1048576)
    (h : ∀ g cap W', Pl w s p va vc 56 2 (.slice (some ⟨g, 0, none⟩) (L.length + 1) cap) (L ++ [(t, q)]).length (askCells (L ++ [(t, q)])) n b W' → wpList Tryz.prog ops Q rest (a.put o.dst (.slice (some ⟨g, 0, none⟩) (L.length + 1) cap)) W') :
    wpList Tryz.prog ops Q (o :: rest) a W := by
  obtain ⟨i0, hi, hz0, hz1, hz2⟩ := info_parts (show (Tryz.prog.info? 56).map (fun i => (i.zero, i.size, i.bytes)) = some (some (.agg #[.string ⟨#[]⟩, .int .i64 0]), 2, 24) by kernel_rfl)
  refine wpList_append_lies W hgd x y 32 ho (w.heap.size + 1 + 1 + 1) 56 i0 _ 2 24 Tryz.underlying32 hi hz0 hz1 hz2 rfl (by decide) v L.length _ hx hI.own ⟨B, 0, none⟩ 1 1 [.string t, .int .i64 q] hy rfl (World.news_of_block hB) (by simp [Value.oneCell']) (by decide) (by unfold maxLen; omega) (by omega) hI.po.size _ rfl ?_
  intro g cap W' hown hgrow hat hlt
  refine h g cap W' (hI.grown hgrow ?_)
  rw [List.length_append, askCells_append]
  exact hown
end
end Go.Proofs.YtnjdpibgfbbkcabGreatDoor
