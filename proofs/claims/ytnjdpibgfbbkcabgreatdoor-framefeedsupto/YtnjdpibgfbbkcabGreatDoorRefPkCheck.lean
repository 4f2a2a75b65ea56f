/-
  The reference's IsClient, HasId, CheckPacket: what they answer.
-/
import Derived.Test.YtnjdpibgfbbkcabGreatDoorPacketCheck
import Derived.Test.YtnjdpibgfbbkcabGreatDoorTopicLevelsOf
import Derived.Test.YtnjdpibgfbbkcabGreatDoorWriterKinds
import Derived.Test.YtnjdpibgfbbkcabGreatDoorWireGets
namespace Go.Proofs.YtnjdpibgfbbkcabGreatDoor
open Go.RowKit Go.PlainAid

/-- what a packet has that its kind does not name -/
def t1 (p : Pk) : Bool := (p.kind != 1 && (!decide (p.client = ⟨#[]⟩) || p.clean || p.keep != 0)) || (p.kind != 2 && (p.session || p.code != 0))
def t2 (p : Pk) : Bool := p.kind != 3 && (p.dup || p.retain || p.qos != 0 || !decide (p.topic = ⟨#[]⟩) || !decide (p.payload = ⟨#[]⟩))
def t3 (p : Pk) : Bool := (!(decide (3 ≤ p.kind) && decide (p.kind ≤ 4)) && !(decide (8 ≤ p.kind) && decide (p.kind ≤ 11)) && p.id != 0) || (p.kind != 8 && p.kind != 10 && decide (0 < p.asks.length)) || (p.kind != 9 && decide (0 < p.codes.length))
theorem kinds {k : Int} (h : kindB k = true) : k = 1 ∨ k = 2 ∨ k = 3 ∨ k = 4 ∨ k = 8 ∨ k = 9 ∨ k = 10 ∨ k = 11 ∨ k = 12 ∨ k = 13 ∨ k = 14 := by
  simp only [kindB, decide_eq_true_eq] at h
  omega
set_option maxHeartbeats 8000000 in
theorem bare_t {p : Pk} (h : kindB p.kind = true) : bareB (wn p) = !(t1 p || t2 p || t3 p) := by
  obtain ⟨k, d, r, c, s, q, i, kp, cd, cl, tp, pl, sa, cs⟩ := p
  rcases kinds h with h | h | h | h | h | h | h | h | h | h | h
  all_goals
    simp only at h
    subst h
    simp [bareB, wn, t1, t2, t3, Bool.and_assoc, Bool.and_comm, Bool.and_left_comm]
theorem rng_vis (s : ByteArray) (k : Nat) : rngTo s k = visTo s k := by
  induction k with
  | zero => rfl
  | succ k ih => rw [rngTo, visTo, ih, Bool.and_assoc]
set_option maxHeartbeats 1000000 in
theorem isClient_any (s : ByteArray) (w : World) (h : s.size ≤ 20) : Calls Tryz.prog 49 #[.string s] w fun e w' => e = .returned (.bool (nameB s)) ∧ w' = w := by
  have CP := hide (refPlain_any s w (by unfold maxLen; omega))
  rw [rng_vis] at CP
  have hN : nameB s = (visTo s s.size && decide (0 < s.size)) := rfl
  rw [hN]
  generalize visTo s s.size = V at *
  by_cases h0 : 0 < s.size
  · go_enter Tryz.func49, Tryz.ntmps49
    go_wp2_with fail
    refine (between_yes _ _ _ _ (by omega)).mono ?_
    rintro e w1 ⟨rfl, rfl⟩
    go_wp2_with fail
    refine CP.out.mono ?_
    rintro e w1 ⟨rfl, rfl⟩
    go_wp2
    go_ret
    exact ⟨by simp [h0], rfl⟩
  · go_enter Tryz.func49, Tryz.ntmps49
    go_wp2_with fail
    refine (between_no _ _ _ _ (by omega)).mono ?_
    rintro e w1 ⟨rfl, rfl⟩
    go_wp2
    go_ret
    exact ⟨by simp [h0], rfl⟩
/-- does it have an Id? -/
def hasB (k q : Int) : Bool := decide (k = 3 ∧ q = 1 ∨ k = 4 ∨ 8 ≤ k ∧ k ≤ 11)
set_option maxHeartbeats 2000000 in
theorem hasId_any (k q : Int) (d r c s : Bool) (i kp cd : Int) (cl tp pl : ByteArray) (aa ac : Option Addr) (n1 n2 ca cc : Nat) (w : World) :
    Calls Tryz.prog 51 #[.agg #[.int .i64 k, .bool d, .bool r, .bool c, .bool s, .int .i64 q, .int .i64 i, .int .i64 kp, .int .i64 cd, .string cl, .string tp, .string pl, .slice aa n1 ca, .slice ac n2 cc]] w fun e w' => e = .returned (.bool (hasB k q)) ∧ Below w.heap.size w w' := by
  generalize hH : hasB k q = H
  have HH := hide hH
  unfold hasB at HH
  clear hH
  by_cases h3 : k = 3
  · subst h3
    by_cases h1 : q = 1
    · subst h1
      go_enter Tryz.func51, Tryz.ntmps51
      go_wp2
      go_ret
      exact ⟨by rw [← HH.out]; simp, (Below.refl _ _).alloc (Nat.le_refl _) _⟩
    · have e1 : (q == 1) = false := by simp [h1]
      go_enter Tryz.func51, Tryz.ntmps51
      go_wp2_with (go_at_call 21; refine (between_no _ _ _ _ (by omega)).mono ?_; rintro e w1 ⟨rfl, rfl⟩)
      go_ret
      exact ⟨by rw [← HH.out]; simp [h1], (Below.refl _ _).alloc (Nat.le_refl _) _⟩
  · have e3 : (k == 3) = false := by simp [h3]
    by_cases h4 : k = 4
    · subst h4
      go_enter Tryz.func51, Tryz.ntmps51
      go_wp2
      go_ret
      exact ⟨by rw [← HH.out]; simp, (Below.refl _ _).alloc (Nat.le_refl _) _⟩
    · have e4 : (k == 4) = false := by simp [h4]
      by_cases h8 : 8 ≤ k ∧ k ≤ 11
      · go_enter Tryz.func51, Tryz.ntmps51
        go_wp2_with (go_at_call 21; refine (between_yes _ _ _ _ h8).mono ?_; rintro e w1 ⟨rfl, rfl⟩)
        go_ret
        exact ⟨by rw [← HH.out]; simp only [h3, h4, h8, false_and, false_or, and_self, decide_true]; rfl, (Below.refl _ _).alloc (Nat.le_refl _) _⟩
      · go_enter Tryz.func51, Tryz.ntmps51
        go_wp2_with (go_at_call 21; refine (between_no _ _ _ _ h8).mono ?_; rintro e w1 ⟨rfl, rfl⟩)
        go_ret
        exact ⟨by rw [← HH.out]; simp only [h3, h4, h8, false_and, false_or, decide_false]; rfl, (Below.refl _ _).alloc (Nat.le_refl _) _⟩
/-- what is left to be wrong, where nothing else is there -/
def tailE (p : Pk) : Int := if p.kind = 1 then connectE p else if p.kind = 2 then connackE p else if p.kind = 3 then publishE p else if p.kind = 12 ∨ p.kind = 13 ∨ p.kind = 14 then 0 else withIdE p
theorem chk_tail {p : Pk} (h : kindB p.kind = true) : chkP p = if (t1 p || t2 p || t3 p) = true then 1 else tailE p := by
  have hb := bare_t h
  have hc : chkP p = if bareB (wn p) = false then 1 else tailE p := by
    show (if kindB p.kind = false then (7 : Int) else _) = _
    rw [if_neg (by simp [h])]
    rfl
  rw [hc, hb]
  cases t1 p || t2 p || t3 p <;> rfl
theorem t1_no {p : Pk} (h : t1 p = false) : (p.kind ≠ 1 → p.client = ⟨#[]⟩ ∧ p.clean = false ∧ p.keep = 0) ∧ (p.kind ≠ 2 → p.session = false ∧ p.code = 0) := by
  simp only [t1, Bool.or_eq_false_iff, Bool.and_eq_false_iff, Bool.not_eq_false', decide_eq_true_eq, bne_eq_false_iff_eq] at h
  exact ⟨fun hk => ⟨(h.1.resolve_left hk).1.1, (h.1.resolve_left hk).1.2, (h.1.resolve_left hk).2⟩, fun hk => h.2.resolve_left hk⟩
theorem t2_no {p : Pk} (h : t2 p = false) : p.kind ≠ 3 → p.dup = false ∧ p.retain = false ∧ p.qos = 0 ∧ p.topic = ⟨#[]⟩ ∧ p.payload = ⟨#[]⟩ := by
  simp only [t2, Bool.or_eq_false_iff, Bool.and_eq_false_iff, Bool.not_eq_false', decide_eq_true_eq, bne_eq_false_iff_eq] at h
  exact fun hk => ⟨(h.resolve_left hk).1.1.1.1, (h.resolve_left hk).1.1.1.2, (h.resolve_left hk).1.1.2, (h.resolve_left hk).1.2, (h.resolve_left hk).2⟩
end Go.Proofs.YtnjdpibgfbbkcabGreatDoor
