/-
  packet.read and Decode: what they answer.
-/
import Derived.Test.YtgmjdelgocbcaabDoorReaderPks
import Derived.Test.YtgmjdelgocbcaabDoorReaderPk12
import Derived.Test.YtgmjdelgocbcaabDoorReaderPkId
namespace Go.Proofs.YtgmjdelgocbcaabDoor
open Go.RowKit Go.PlainAid Go.Deep

theorem rpacket_any (B br b : Nat) (s : ByteArray) (n : Nat) (bad : Bool) (w : World) (hb : b < 256) (hB1 : B ≤ br) (hB : B ≤ w.heap.size) (hR : Rd br s n bad w) (hs : s.size ≤ 281474976710656) (hn : n ≤ s.size) :
    Calls Tryd.prog 55 #[.pointer (some ⟨br, 0, none⟩), .int .i64 b] w fun e w' => ∃ aa ca ac cc, e = .returned (pkV (packR s n bad b).1 aa ca ac cc) ∧ PkInB B w' (packR s n bad b).1 aa ac ∧ Rd br s (packR s n bad b).2.1 (packR s n bad b).2.2 w' ∧ Below B w w' := by
  by_cases h : (kPk b).kind = 1 ∨ (kPk b).kind = 2 ∨ (kPk b).kind = 3 ∨ (kPk b).kind = 12 ∨ (kPk b).kind = 13 ∨ (kPk b).kind = 14
  · rcases h with h | h | h | h | h | h
    · exact rpacket_1 B br b s n bad w hb hB1 hB hR hs hn h
    · exact rpacket_2 B br b s n bad w hb hB1 hB hR hs hn h
    · exact rpacket_3 B br b s n bad w hb hB1 hB hR hs hn h
    · exact rpacket_12 B br b s n bad w hb hB1 hB hR hs hn h
    · exact rpacket_13 B br b s n bad w hb hB1 hB hR hs hn h
    · exact rpacket_14 B br b s n bad w hb hB1 hB hR hs hn h
  · exact rpacket_id B br b s n bad w hb hB1 hB hR hs hn h

/-- is there a packet's length? -/
def lenOk (s : ByteArray) : Bool := (glR s 1).2.2 == 0 && (glR s 1).1 == (s.size : Int) - 1 - (glR s 1).2.1
/-- the packet that has just these bytes, right or wrong otherwise -/
def rdP (s : ByteArray) : Pk := if lenOk s = true then (packR s (1 + (glR s 1).2.1.toNat) false (bt s 0).toNat).1 else zeroPk
def rdB (s : ByteArray) : Bool := lenOk s && (!(packR s (1 + (glR s 1).2.1.toNat) false (bt s 0).toNat).2.2 && decide ((packR s (1 + (glR s 1).2.1.toNat) false (bt s 0).toNat).2.1 = s.size))

theorem glGo_ok (s : ByteArray) (a : Nat) : ∀ (f i : Nat) (m : Int), 0 ≤ m → (glGo s a f i m).2.2 = 0 → 0 ≤ (glGo s a f i m).1 ∧ (i : Int) + 1 ≤ (glGo s a f i m).2.1 ∧ (glGo s a f i m).2.1 ≤ i + f ∧ (a : Int) + (glGo s a f i m).2.1 ≤ s.size := by
  intro f
  induction f with
  | zero => intro i m _ h; simp [glGo] at h
  | succ f ih =>
    intro i m hm h
    have hb := bt_nonneg s (a + i)
    have hpow : (0 : Int) ≤ bt s (a + i) % 128 * 128 ^ i := Int.mul_nonneg (by omega) (by exact Int.le_of_lt (Int.pow_pos (by decide)))
    unfold glGo at h ⊢
    split at h
    · simp at h
    · rename_i h1
      rw [if_neg h1]
      split at h
      · rename_i h2
        rw [if_pos h2]
        have := ih (i + 1) _ (by omega) h
        refine ⟨this.1, by omega, by omega, this.2.2.2⟩
      · rename_i h2
        rw [if_neg h2]
        split at h
        · simp at h
        · rename_i h3
          rw [if_neg h3]
          simp only
          refine ⟨by omega, by omega, by omega, by omega⟩

theorem lenOk_ok {s : ByteArray} (h : lenOk s = true) : ∃ u : Nat, (glR s 1).2.1 = u ∧ (glR s 1).2.2 = 0 ∧ 1 ≤ u ∧ u ≤ 4 ∧ 1 + u ≤ s.size ∧ (glR s 1).1 = (s.size : Int) - 1 - u := by
  simp only [lenOk, Bool.and_eq_true, beq_iff_eq] at h
  have h1 := h.1
  unfold glR at h1
  split at h1
  · simp at h1
  · rename_i h2
    have e : glR s 1 = glGo s 1 4 0 0 := by unfold glR; rw [if_neg h2]; rfl
    have := glGo_ok s 1 4 0 0 (by decide) h1
    rw [← e] at this
    have hu : 0 ≤ (glR s 1).2.1 := by omega
    obtain ⟨u, hu'⟩ := Int.eq_ofNat_of_zero_le hu
    refine ⟨u, hu', h.1, by omega, by omega, by omega, by rw [← hu']; exact h.2⟩

theorem zero_in (w : World) : PkIn w zeroPk none none := ⟨.inl rfl, .inl rfl⟩

set_option maxHeartbeats 8000000 in
theorem read_no (s : ByteArray) (w : World) (hs : s.size ≤ maxLen) (h : lenOk s = false) :
    Calls Tryd.prog 27 #[.string s] w fun e w' => e = .returned (.tuple #[pkV zeroPk none 0 none 0, .bool false]) ∧ Below w.heap.size w w' := by
  have hs' := hide hs
  unfold maxLen at hs
  have HG := hide (getLong_any s 1 w.drew hs'.out)
  have HC : Hid (∀ W, Calls Tryd.prog 54 #[.string s, .int .i64 1] W fun e w' => e = .returned (.tuple #[.int .i64 (glR s 1).1, .int .i64 (glR s 1).2.1, .int .i64 (glR s 1).2.2]) ∧ w' = W) := fun W => getLong_any s 1 W hs'.out
  have hb : (glR s 1).2.2 = 0 → 0 ≤ (glR s 1).2.1 ∧ (glR s 1).2.1 ≤ 4 := by
    intro h1
    unfold glR at h1 ⊢
    split at h1
    · simp at h1
    · rename_i h2
      rw [if_neg h2]
      have := glGo_ok s 1 4 0 0 (by decide) h1
      simp only [Int.toNat_one] at *
      omega
  unfold lenOk at h
  clear HG
  revert HC h hb
  generalize glR s 1 = g
  obtain ⟨v, u, e⟩ := g
  simp only
  intro h HC hb
  by_cases he : e = 0
  · have hu := hb he
    subst he
    have hne : (v != (s.size : Int) - 1 - u) = true := by simpa using h
    clear h hb
    go_enter Tryd.func27, Tryd.ntmps27
    go_wp2_with (go_at_call 54; refine (HC.out _).mono ?_; rintro x w' ⟨rfl, rfl⟩)
    refine bodyPost_ret (v := .tuple #[pkV zeroPk none 0 none 0, .bool false]) (by simp [results, Tryd.results27, go_sem, pkV, zeroPk]) rfl ⟨rfl, ?_⟩
    repeat (first | refine Below.setCell ?_ (by first | simp | (simp; omega)) _ | refine Below.alloc ?_ (by first | simp | (simp; omega)) _ | exact Below.refl _ _)
  · have he' : (e != 0) = true := by simp [he]
    clear h hb he
    go_enter Tryd.func27, Tryd.ntmps27
    go_wp2_with (go_at_call 54; refine (HC.out _).mono ?_; rintro x w' ⟨rfl, rfl⟩)
    refine bodyPost_ret (v := .tuple #[pkV zeroPk none 0 none 0, .bool false]) (by simp [results, Tryd.results27, go_sem, pkV, zeroPk]) rfl ⟨rfl, ?_⟩
    repeat (first | refine Below.setCell ?_ (by first | simp | (simp; omega)) _ | refine Below.alloc ?_ (by first | simp | (simp; omega)) _ | exact Below.refl _ _)

end Go.Proofs.YtgmjdelgocbcaabDoor
