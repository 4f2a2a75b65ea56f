/-
  session.sending: what it answers, whatever act leaves of the sender.
-/
import Derived.Test.YtnhcecgmcmcioaaDoorSesActs
namespace Go.Proofs.YtnhcecgmcmcioaaDoor
open Go.RowKit Go.PlainAid

theorem toldE_small {t p : ByteArray} (h : toldE t p = 0) : t.size ≤ 60 ∧ p.size ≤ 200 := by
  unfold toldE at h
  by_cases h1 : chk nameF t = 0
  · rw [if_neg (by simp [h1])] at h
    by_cases h2 : 200 < p.size
    · rw [if_pos h2] at h; cases h
    · exact ⟨(chk_ok h1).1, by omega⟩
  · rw [if_pos h1] at h; exact absurd h h1
theorem fchkL_small : ∀ (l a : List Fl), fchkL a l = 0 → ∀ f ∈ l, f.topic.size ≤ 60 ∧ f.load.size ≤ 200
  | [], _, _, f, hf => by cases hf
  | g :: l, a, h, f, hf => by
    rw [fchkL] at h
    by_cases h1 : toldE g.topic g.load = 0
    · rw [if_neg (by simp [h1])] at h
      by_cases h2 : idOk g.id = false
      · rw [if_pos h2] at h; cases h
      · rw [if_neg h2] at h
        by_cases h3 : a.any (isI g.id) = true
        · rw [if_pos h3] at h; cases h
        · rw [if_neg h3] at h
          rcases List.mem_cons.1 hf with rfl | hf
          · exact toldE_small h1
          · exact fchkL_small l _ h f hf
    · rw [if_pos h1] at h; exact absurd h h1
theorem qchkL_small : ∀ (l : List Fl), qchkL l = 0 → ∀ f ∈ l, f.topic.size ≤ 60 ∧ f.load.size ≤ 200
  | [], _, f, hf => by cases hf
  | g :: l, h, f, hf => by
    rw [qchkL] at h
    by_cases h1 : toldE g.topic g.load = 0
    · rw [if_neg (by simp [h1])] at h
      by_cases h2 : g.id ≠ 0
      · rw [if_pos h2] at h; cases h
      · rw [if_neg h2] at h
        rcases List.mem_cons.1 hf with rfl | hf
        · exact toldE_small h1
        · exact qchkL_small l h f hf
    · rw [if_pos h1] at h; exact absurd h h1
theorem chkS_small {s : Se} (h : chkS s = 0) : s.client.size ≤ 20 ∧ s.fl.length ≤ 3 ∧ s.qu.length ≤ 6 ∧ (∀ f, f ∈ s.fl ∨ f ∈ s.qu → f.topic.size ≤ 60 ∧ f.load.size ≤ 200) ∧ 1 ≤ s.next ∧ s.next ≤ 65535 := by
  unfold chkS at h
  by_cases h1 : clB s.client = false
  · rw [if_pos h1] at h; cases h
  rw [if_neg h1] at h
  by_cases h2 : 3 < s.fl.length ∨ 6 < s.qu.length
  · rw [if_pos h2] at h; cases h
  rw [if_neg h2] at h
  by_cases h3 : fchkL [] s.fl = 0
  · rw [if_neg (by simp [h3])] at h
    by_cases h4 : qchkL s.qu = 0
    · rw [if_neg (by simp [h4])] at h
      by_cases h5 : idOk s.next = false
      · rw [if_pos h5] at h; cases h
      · have h6 : clB s.client = true := by simpa using h1
        have h7 : idOk s.next = true := by simpa using h5
        unfold clB at h6
        unfold idOk at h7
        simp only [Bool.and_eq_true, decide_eq_true_eq] at h6 h7
        refine ⟨h6.1, by omega, by omega, fun f hf => ?_, h7.1, h7.2⟩
        rcases hf with hf | hf
        · exact fchkL_small _ _ h3 f hf
        · exact qchkL_small _ h4 f hf
    · rw [if_pos h4] at h; exact absurd h h4
  · rw [if_pos h3] at h; exact absurd h h3

/-- a new sender of a session with rows of its own -/
theorem sq_new {N M : Nat} {s : Se} {a1 a2 : Option Addr} {c1 c2 : Nat} {w W : World} (h : Own2 N s (.slice a1 s.fl.length c1) (.slice a2 s.qu.length c2) M W) (hb : Below N w W) (hN : N ≤ W.heap.size) :
    Sq N W.heap.size s (.slice a1 s.fl.length c1) (.slice a2 s.qu.length c2) (.slice none 0 0) [] (min M W.heap.size) w (W.alloc (.cells #[.string s.client, .bool s.on, .bool s.clean, .slice a1 s.fl.length c1, .slice a2 s.qu.length c2, .int .i64 s.next, .slice none 0 0] 53)) := by
  have hal : Below W.heap.size W (W.alloc (.cells #[.string s.client, .bool s.on, .bool s.clean, .slice a1 s.fl.length c1, .slice a2 s.qu.length c2, .int .i64 s.next, .slice none 0 0] 53)) := (Below.refl _ W).alloc (Nat.le_refl _) _
  refine ⟨Go.heap_alloc_new W _, kown_below h.fl hal, fun k hk => ?_, kown_mono (kown_below h.qu hal) (Nat.min_le_left _ _), World.ownsRow_nil _ _ _ _, hb.trans (hal.mono hN), hN, ?_, ?_⟩
  · have := h.lt k hk; have := kown_lt h.fl hk; omega
  · have := h.le; omega
  · have := hal.size; omega
end Go.Proofs.YtnhcecgmcmcioaaDoor
