/-
  packet.reader in memory, and what its small methods do: must, number, text, marked, rest.
-/
import Derived.Test.YtnjdpibgfbbkcabGreatDoorPacketBase
import Derived.Test.YtnjdpibgfbbkcabGreatDoorWireAll
import Derived.Deep.QuietTactic
import Derived.BigQuiet
import Derived.Deep.RegionWith
namespace Go.Proofs.YtnjdpibgfbbkcabGreatDoor
open Go.RowKit Go.PlainAid

/-- all blocks but two are as they were -/
structure Kx (a b : Nat) (w w' : World) : Prop where
  os : w'.os = w.os
  tape : w'.tape = w.tape
  output : w'.output = w.output
  size : w.heap.size ≤ w'.heap.size
  block : ∀ k, k < w.heap.size → k ≠ a → k ≠ b → w'.heap[k]? = w.heap[k]?

theorem Kx.refl (a b : Nat) (w : World) : Kx a b w w := ⟨rfl, rfl, rfl, Nat.le_refl _, fun _ _ _ _ => rfl⟩
theorem Kx.trans {a b : Nat} {u v w : World} (h : Kx a b u v) (k : Kx a b v w) : Kx a b u w :=
  ⟨k.os.trans h.os, k.tape.trans h.tape, k.output.trans h.output, Nat.le_trans h.size k.size, fun i hi ha hb => (k.block i (Nat.lt_of_lt_of_le hi h.size) ha hb).trans (h.block i hi ha hb)⟩
theorem Kx.of_below {a b : Nat} {w w' : World} (h : Below w.heap.size w w') : Kx a b w w' := ⟨h.os, h.tape, h.output, h.size, fun k hk _ _ => h.block k hk⟩
theorem Kx.of_one {a b : Nat} {w w' : World} (h : Kx a a w w') : Kx a b w w' := ⟨h.os, h.tape, h.output, h.size, fun k hk ha _ => h.block k hk ha ha⟩
theorem Kx.set (a b : Nat) (w : World) (o : Nat) (v : Value) : Kx a b w (w.setCell ⟨a, o, none⟩ v) := ⟨rfl, rfl, rfl, by simp [World.setCell], fun k _ ha _ => Below.heap_setCell _ _ _ _ ha⟩
theorem Kx.set2 (a b : Nat) (w : World) (o : Nat) (v : Value) : Kx a b w (w.setCell ⟨b, o, none⟩ v) := ⟨rfl, rfl, rfl, by simp [World.setCell], fun k _ _ hb => Below.heap_setCell _ _ _ _ hb⟩
theorem Kx.of_drew (a b : Nat) (w : World) (n : Nat) : Kx a b w (w.drewN n) := ⟨rfl, rfl, rfl, Nat.le_refl _, fun _ _ _ _ => rfl⟩
theorem Kx.below {a b B : Nat} {w w' : World} (h : Kx a b w w') (hB : B ≤ w.heap.size) (h1 : B ≤ a) (h2 : B ≤ b) : Below B w w' :=
  ⟨h.os, h.tape, h.output, h.size, fun k hk => h.block k (by omega) (by omega) (by omega)⟩
theorem Kx.drew {a b : Nat} {u w : World} (h : Kx a b u w) : Kx a b u w.drew := ⟨h.os, h.tape, h.output, h.size, h.block⟩
theorem Kx.cell {a b : Nat} {w w' : World} (h : Kx a b w w') {p : Addr} (hp : p.block < w.heap.size) (ha : p.block ≠ a) (hb : p.block ≠ b) : w'.cell? p = w.cell? p := World.cell?_of_block (w := w) (h.block p.block hp ha hb)

/-- a reader in block b: of which bytes, where it is in them, and whether something in them can't be -/
def Rd (b : Nat) (s : ByteArray) (n : Nat) (bad : Bool) (w : World) : Prop := w.heap[b]? = some (.cells #[.string s, .int .i64 n, .bool bad] 78 (0, 0))

theorem Rd.lt {b : Nat} {s : ByteArray} {n : Nat} {bad : Bool} {w : World} (h : Rd b s n bad w) : b < w.heap.size := (Array.getElem?_eq_some_iff.1 h).1
theorem Rd.cells {b : Nat} {s : ByteArray} {n : Nat} {bad : Bool} {w : World} (h : Rd b s n bad w) : w.cell? ⟨b, 0, none⟩ = some (.string s) ∧ w.cell? ⟨b, 1, none⟩ = some (.int .i64 n) ∧ w.cell? ⟨b, 2, none⟩ = some (.bool bad) ∧ w.frozen? ⟨b, 1, none⟩ = false ∧ w.frozen? ⟨b, 2, none⟩ = false := by
  unfold Rd at h
  refine ⟨?_, ?_, ?_, ?_, ?_⟩ <;> simp [World.cell?, World.frozen?, h]
theorem Rd.set1 {b : Nat} {s : ByteArray} {n : Nat} {bad : Bool} {w : World} (h : Rd b s n bad w) (m : Nat) : Rd b s m bad (w.setCell ⟨b, 1, none⟩ (.int .i64 m)) := by
  unfold Rd at *; simp [World.setCell, Array.getElem?_modify, h]
theorem Rd.set2 {b : Nat} {s : ByteArray} {n : Nat} {bad : Bool} {w : World} (h : Rd b s n bad w) (c : Bool) : Rd b s n c (w.setCell ⟨b, 2, none⟩ (.bool c)) := by
  unfold Rd at *; simp [World.setCell, Array.getElem?_modify, h]
theorem Rd.below {b : Nat} {s : ByteArray} {n : Nat} {bad : Bool} {w w' : World} (h : Rd b s n bad w) (hb : Below w.heap.size w w') : Rd b s n bad w' := by
  have := h.lt; unfold Rd at *; rw [hb.block b this]; exact h

set_option maxHeartbeats 1000000 in
theorem must_any (b : Nat) (s : ByteArray) (n : Nat) (bad be : Bool) (w : World) (h : Rd b s n bad w) :
    Calls Tryz.prog 65 #[.pointer (some ⟨b, 0, none⟩), .bool be] w fun e w' => e = .returned (.tuple #[]) ∧ Rd b s n (bad || !be) w' ∧ Kx b b w w' := by
  have HR := hide h
  obtain ⟨h0, h1, h2, h3, h4⟩ := h.cells
  clear h
  cases bad with
  | true =>
    go_enter Tryz.func65, Tryz.ntmps65
    go_wp2
    go_end0
    exact ⟨rfl, HR.out.set2 true, Kx.set _ _ _ _ _⟩
  | false =>
    go_enter Tryz.func65, Tryz.ntmps65
    go_wp2
    go_end0
    exact ⟨rfl, by simpa using HR.out.set2 (!be), Kx.set _ _ _ _ _⟩

/-- a number that is read: where the reader is behind it, and whether that can't be -/
def rnAt (s : ByteArray) (n k : Nat) : Nat := if (getR s n k).2 = 0 then n + k else n
def rnBad (s : ByteArray) (n k : Nat) (bad : Bool) : Bool := bad || !((getR s n k).2 == 0)

theorem getR_ok {s : ByteArray} {n k : Nat} (h : (getR s n k).2 = 0) : n + k ≤ s.size := by
  unfold getR at h
  split at h
  · simp at h
  · split at h
    · simp at h
    · split at h
      · simp at h
      · omega
theorem rnAt_le {s : ByteArray} {n k : Nat} (hn : n ≤ s.size) : rnAt s n k ≤ s.size := by
  unfold rnAt
  split
  · rename_i h; exact getR_ok h
  · exact hn

set_option maxHeartbeats 2000000 in
theorem rnumber_any (b : Nat) (s : ByteArray) (n k : Nat) (bad : Bool) (w : World) (hs : s.size ≤ maxLen) (hn : n ≤ s.size) (h : Rd b s n bad w) :
    Calls Tryz.prog 68 #[.pointer (some ⟨b, 0, none⟩), .int .i64 k] w fun e w' => e = .returned (.int .i64 (getR s n k).1) ∧ Rd b s (rnAt s n k) (rnBad s n k bad) w' ∧ Kx b b w w' := by
  have hs' := hide hs
  unfold maxLen at hs
  have HR := hide h
  obtain ⟨h0, h1, h2, h3, h4⟩ := h.cells
  clear h
  have HA : Hid (∀ W, Calls Tryz.prog 82 #[.string s, .int .i64 n, .int .i64 k] W fun e w' => e = .returned (.tuple #[.int .i64 (getR s n k).1, .int .i64 (getR s n k).2]) ∧ w' = W) := fun W => get_any s n k W hs'.out
  generalize hat : rnAt s n k = at'
  generalize hbd : rnBad s n k bad = bad'
  unfold rnAt at hat
  unfold rnBad at hbd
  have hle : (getR s n k).2 = 0 → n + k ≤ s.size := getR_ok
  revert HA hat hbd hle
  generalize getR s n k = g
  obtain ⟨v, e⟩ := g
  simp only
  intro HA hat hbd hle
  by_cases he : e = 0
  · have hnk := hle he
    rw [if_pos he] at hat
    have HAT := hide hat.symm
    have HBD : Hid (bad' = bad) := by rw [← hbd, he]; show _ = _; simp
    clear hat hbd hle
    subst he
    go_enter Tryz.func68, Tryz.ntmps68
    go_wp2_with fail
    go_quiet ((go_at_call 82; exact Calls.quiet_of_same (HA.out _)))
    go_wp2_with fail
    refine Calls.mono (must_any b s n bad true _ ?_) ?_
    · exact HR.out
    rintro e w1 ⟨rfl, hr1, hk1⟩
    have HR1 := hide hr1
    have HK1 := hide ((Kx.of_drew b b w _).trans hk1)
    obtain ⟨g0, g1, g2, g3, g4⟩ := hr1.cells
    clear hr1 hk1 h0 h1 h2 h3 h4
    go_wp2
    go_ret
    exact ⟨rfl, by rw [HAT.out, HBD.out]; simpa using HR1.out.set1 (n + k), HK1.out.trans (Kx.set _ _ _ _ _)⟩
  · rw [if_neg he] at hat
    have he1 : (e == 0) = false := by simp [he]
    have HAT := hide hat.symm
    have HBD : Hid (bad' = (bad || !false)) := by rw [← hbd, he1]; show _ = _; rfl
    clear hat hbd hle he
    go_enter Tryz.func68, Tryz.ntmps68
    go_wp2_with fail
    go_quiet ((go_at_call 82; exact Calls.quiet_of_same (HA.out _)))
    go_wp2_with fail
    refine Calls.mono (must_any b s n bad false _ ?_) ?_
    · exact HR.out
    rintro e w1 ⟨rfl, hr1, hk1⟩
    have HR1 := hide hr1
    have HK1 := hide ((Kx.of_drew b b w _).trans hk1)
    clear hr1 hk1 h0 h1 h2 h3 h4
    go_wp2
    go_ret
    exact ⟨rfl, by rw [HAT.out, HBD.out]; exact HR1.out, HK1.out⟩

/-- a text that is read -/
def rtAt (s : ByteArray) (n : Nat) : Nat := n + (gtR s n).2.1.toNat
def rtBad (s : ByteArray) (n : Nat) (bad : Bool) : Bool := bad || !((gtR s n).2.2 == 0)
theorem gtR_le (s : ByteArray) (n : Nat) (hn : n ≤ s.size) : 0 ≤ (gtR s n).2.1 ∧ n + (gtR s n).2.1 ≤ s.size := by
  unfold gtR
  split
  · simp only; omega
  · split
    · simp only; omega
    · split
      · simp only; omega
      · simp only [Int.toNat_natCast] at *; omega
theorem rtAt_le {s : ByteArray} {n : Nat} (hn : n ≤ s.size) : rtAt s n ≤ s.size := by
  have := gtR_le s n hn
  unfold rtAt; omega

set_option maxHeartbeats 2000000 in
theorem rtext_any (b : Nat) (s : ByteArray) (n : Nat) (bad : Bool) (w : World) (hs : s.size ≤ maxLen) (hn : n ≤ s.size) (h : Rd b s n bad w) :
    Calls Tryz.prog 81 #[.pointer (some ⟨b, 0, none⟩)] w fun e w' => e = .returned (.string (gtR s n).1) ∧ Rd b s (rtAt s n) (rtBad s n bad) w' ∧ Kx b b w w' := by
  have hs' := hide hs
  unfold maxLen at hs
  have HR := hide h
  obtain ⟨h0, h1, h2, h3, h4⟩ := h.cells
  clear h
  have HA : Hid (∀ W, Calls Tryz.prog 89 #[.string s, .int .i64 n] W fun e w' => e = .returned (.tuple #[.string (gtR s n).1, .int .i64 (gtR s n).2.1, .int .i64 (gtR s n).2.2]) ∧ Below W.heap.size W w') := fun W => getText_any s n W hs'.out
  generalize hat : rtAt s n = at'
  generalize hbd : rtBad s n bad = bad'
  unfold rtAt at hat
  unfold rtBad at hbd
  have hle := gtR_le s n hn
  revert HA hat hbd hle
  generalize gtR s n = g
  obtain ⟨v, u, e⟩ := g
  simp only
  intro HA hat hbd hle
  obtain ⟨U, rfl⟩ := Int.eq_ofNat_of_zero_le hle.1
  have HAT := hide hat.symm
  have HBD := hide hbd.symm
  clear hat hbd
  go_enter Tryz.func81, Tryz.ntmps81
  go_wp2_with fail
  go_region_with (go_at_call 89; refine (HA.out _).mono ?_; rintro x w1 ⟨rfl, hb1⟩)
  all_goals
    go_wp2_with fail
    refine Calls.mono (must_any b s n bad (e == 0) _ ?_) ?_
    · exact Rd.below (w := w.drew) (show Rd b s n bad w.drew from HR.out) hb1
    rintro x w2 ⟨rfl, hr2, hk2⟩
    have HR2 := hide hr2
    have HK2 := hide ((Kx.of_drew b b w 1).trans ((Kx.of_below hb1).trans hk2))
    obtain ⟨g0, g1, g2, g3, g4⟩ := hr2.cells
    clear hr2 hk2 hb1
    go_wp2
    go_ret
    exact ⟨rfl, by rw [HAT.out, HBD.out]; simpa using HR2.out.set1 (n + U), HK2.out.trans (Kx.set _ _ _ _ _)⟩
end Go.Proofs.YtnjdpibgfbbkcabGreatDoor
