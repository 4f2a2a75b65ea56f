/-
  message.reader in memory, and what its methods do: take, text, number, amount.
-/
import Derived.Test.YtedlebkpdejhiacMsgCheck
import Derived.Test.YtedlebkpdejhiacMsgBack
import Derived.Test.YtedlebkpdejhiacWireText
import Derived.Deep.DeepCutAuto
namespace Go.Proofs.Ytedlebkpdejhiac
open Go.RowKit Go.PlainAid

/-- all blocks but one are as they were -/
structure Km (a : Nat) (w w' : World) : Prop where
  os : w'.os = w.os
  tape : w'.tape = w.tape
  output : w'.output = w.output
  size : w.heap.size ≤ w'.heap.size
  block : ∀ k, k < w.heap.size → k ≠ a → w'.heap[k]? = w.heap[k]?

theorem Km.refl (a : Nat) (w : World) : Km a w w := ⟨rfl, rfl, rfl, Nat.le_refl _, fun _ _ _ => rfl⟩
theorem Km.trans {a : Nat} {u v w : World} (h : Km a u v) (k : Km a v w) : Km a u w :=
  ⟨k.os.trans h.os, k.tape.trans h.tape, k.output.trans h.output, Nat.le_trans h.size k.size, fun i hi ha => (k.block i (Nat.lt_of_lt_of_le hi h.size) ha).trans (h.block i hi ha)⟩
theorem Km.of_below {a : Nat} {w w' : World} (h : Below w.heap.size w w') : Km a w w' := ⟨h.os, h.tape, h.output, h.size, fun k hk _ => h.block k hk⟩
theorem Km.set (a : Nat) (w : World) (o : Nat) (v : Value) : Km a w (w.setCell ⟨a, o, none⟩ v) := ⟨rfl, rfl, rfl, by simp [World.setCell], fun k _ ha => Below.heap_setCell _ _ _ _ ha⟩
theorem Km.drew {a : Nat} {u w : World} (h : Km a u w) : Km a u w.drew := ⟨h.os, h.tape, h.output, h.size, h.block⟩
theorem Km.below {a B : Nat} {w w' : World} (h : Km a w w') (hB : B ≤ w.heap.size) (h1 : B ≤ a) : Below B w w' :=
  ⟨h.os, h.tape, h.output, h.size, fun k hk => h.block k (by omega) (by omega)⟩
theorem Km.cell {a : Nat} {w w' : World} (h : Km a w w') {p : Addr} (hp : p.block < w.heap.size) (ha : p.block ≠ a) : w'.cell? p = w.cell? p := World.cell?_of_block (w := w) (h.block p.block hp ha)

/-- a reader in block b: the bytes that are left, and whether something in them can't be -/
def Rm (b : Nat) (l : ByteArray) (bad : Bool) (w : World) : Prop := w.heap[b]? = some (.cells #[.string l, .bool bad] 60 (0, 0))

section
variable {b : Nat} {l : ByteArray} {bad : Bool} {w : World}
theorem Rm.lt (h : Rm b l bad w) : b < w.heap.size := (Array.getElem?_eq_some_iff.1 h).1
theorem Rm.cells (h : Rm b l bad w) : w.cell? ⟨b, 0, none⟩ = some (.string l) ∧ w.cell? ⟨b, 1, none⟩ = some (.bool bad) ∧ w.frozen? ⟨b, 0, none⟩ = false ∧ w.frozen? ⟨b, 1, none⟩ = false := by
  unfold Rm at h
  refine ⟨?_, ?_, ?_, ?_⟩ <;> simp [World.cell?, World.frozen?, h]
theorem Rm.set0 (h : Rm b l bad w) (m : ByteArray) : Rm b m bad (w.setCell ⟨b, 0, none⟩ (.string m)) := by
  unfold Rm at *; simp [World.setCell, Array.getElem?_modify, h]
theorem Rm.set1 (h : Rm b l bad w) (c : Bool) : Rm b l c (w.setCell ⟨b, 1, none⟩ (.bool c)) := by
  unfold Rm at *; simp [World.setCell, Array.getElem?_modify, h]
theorem Rm.below {w' : World} (h : Rm b l bad w) (hb : Below w.heap.size w w') : Rm b l bad w' := by
  have := h.lt; unfold Rm at *; rw [hb.block b this]; exact h
end

theorem tk_size (l : ByteArray) (k : Nat) : (tk l k).size ≤ l.size := by
  unfold tk; split
  · rw [ByteArray.size_extract]; omega
  · exact Nat.zero_le _
theorem tkL_size (l : ByteArray) (k : Nat) : (tkL l k).size ≤ l.size := by
  unfold tkL; split
  · rw [ByteArray.size_extract]; omega
  · exact Nat.le_refl _

set_option maxHeartbeats 2000000 in
theorem take_any (b : Nat) (l : ByteArray) (bad : Bool) (k : Nat) (w : World) (_hs : l.size ≤ 140737488355328) (h : Rm b l bad w) :
    Calls Try.prog 39 #[.pointer (some ⟨b, 0, none⟩), .int .i64 k] w fun e w' => e = .returned (.string (tk l k)) ∧ Rm b (tkL l k) (tkB l k bad) w' ∧ Km b w w' := by
  have HR := hide h
  obtain ⟨h0, h1, f0, f1⟩ := h.cells
  clear h
  by_cases hk : k ≤ l.size
  · have e1 : tk l k = l.extract 0 k := if_pos hk
    have e2 : tkL l k = l.extract k l.size := if_pos hk
    have e3 : tkB l k bad = bad := by rw [tkB, decide_eq_false (by omega), Bool.or_false]
    have HN : Hid (tkL l k = l.extract k l.size ∧ tkB l k bad = bad) := ⟨e2, e3⟩
    rw [e1]
    clear e1 e2 e3
    have hk' : (k : Int) ≤ l.size := by omega
    have hk2 : decide ((l.size : Int) < k) = false := by simp; omega
    have hk3 : decide (l.size < k) = false := by simp; omega
    go_enter Try.func39, Try.ntmps39
    go_wp2
    go_ret
    exact ⟨rfl, by rw [HN.out.1, HN.out.2]; exact HR.out.set0 _, Km.set _ _ _ _⟩
  · have e1 : tk l k = ⟨#[]⟩ := if_neg hk
    have e2 : tkL l k = l := if_neg hk
    have e3 : tkB l k bad = true := by rw [tkB, decide_eq_true (by omega), Bool.or_true]
    rw [e1, e2, e3]
    clear e1 e2 e3
    have hk2 : decide ((l.size : Int) < k) = true := by simp; omega
    have hk3 : l.size < k := by omega
    clear hk
    go_enter Try.func39, Try.ntmps39
    go_wp2
    go_ret
    exact ⟨rfl, HR.out.set1 true, Km.set _ _ _ _⟩

set_option maxHeartbeats 2000000 in
theorem mtext_any (b : Nat) (l : ByteArray) (bad : Bool) (k : Nat) (w : World) (hs : l.size ≤ 140737488355328) (h : Rm b l bad w) :
    Calls Try.prog 34 #[.pointer (some ⟨b, 0, none⟩), .int .i64 k] w fun e w' => e = .returned (.string (tk l k)) ∧ Rm b (tkL l k) (tkB l k bad) w' ∧ Km b w w' := by
  have C := hide (fun W x => take_any b l bad k W hs x)
  have hz := tk_size l k
  have HR := hide h
  have hz2 : (tk l k).size ≤ 281474976710656 := by omega
  clear h hz hs
  go_enter Try.func34, Try.ntmps34
  go_wp2_with fail
  refine (C.out _ HR.out).mono ?_
  rintro e w1 ⟨rfl, hr1, hk1⟩
  have HR1 := hide hr1
  have HK1 := hide hk1
  clear hr1 hk1
  go_wp2_with fail
  refine (clone_any _ _ hz2).mono ?_
  rintro e w2 ⟨rfl, hb2⟩
  have HR2 := hide (HR1.out.below hb2)
  have HK2 := hide (HK1.out.trans (Km.of_below hb2))
  clear hb2
  go_wp2
  go_ret
  exact ⟨rfl, HR2.out, HK2.out⟩

theorem beN_front (l : ByteArray) (k : Nat) (h : k ≤ l.size) : beN (l.extract 0 k) 0 k = beN l 0 k := by
  have e := pre_ext l (n := k) (m := l.size) h
  rw [pre_all] at e
  have hz : (pre l k).size = k := by rw [pre, ByteArray.size_extract]; omega
  have := beN_cat3 ⟨#[]⟩ (pre l k) (l.extract k l.size) k (by omega)
  rw [str_nil, ← e] at this
  exact this.symm

set_option maxHeartbeats 2000000 in
theorem mrnumber_any (b : Nat) (l : ByteArray) (bad : Bool) (k : Nat) (w : World) (hs : l.size ≤ 140737488355328) (hk1 : 1 ≤ k) (hk4 : k ≤ 4) (h : Rm b l bad w) :
    Calls Try.prog 33 #[.pointer (some ⟨b, 0, none⟩), .int .i64 k] w fun e w' => e = .returned (.int .i64 (nu l k)) ∧ Rm b (tkL l k) (tkB l k bad) w' ∧ Km b w w' := by
  have C := hide (fun W x => take_any b l bad k W hs x)
  have CG : Hid (∀ W, Calls Try.prog 38 #[.string (tk l k), .int .i64 0, .int .i64 k] W fun e w' => ∃ E, e = .returned (.tuple #[.int .i64 (nu l k), .int .i64 E]) ∧ w' = W) := fun W => by
    by_cases hk : k ≤ l.size
    · have hz : (l.extract 0 k).size = k := by rw [ByteArray.size_extract]; omega
      have := get_ok (l.extract 0 k) 0 k W (by rw [hz]; unfold maxLen; omega) hk1 hk4 (by omega)
      rw [show tk l k = l.extract 0 k from if_pos hk, show nu l k = (beN l 0 k : Int) from if_pos hk, ← beN_front l k hk]
      refine this.mono ?_
      rintro e w' ⟨rfl, rfl⟩
      exact ⟨0, rfl, rfl⟩
    · have := get_short ⟨#[]⟩ 0 k W (by decide) (by omega) (by omega) (by decide) (by show ((0 : Nat) : Int) < 0 + (k : Int); omega)
      rw [show tk l k = ⟨#[]⟩ from if_neg hk, show nu l k = 0 from if_neg hk]
      refine this.mono ?_
      rintro e w' ⟨rfl, rfl⟩
      exact ⟨8, rfl, rfl⟩
  have HR := hide h
  clear h hs
  go_enter Try.func33, Try.ntmps33
  go_wp2_with fail
  refine (C.out _ HR.out).mono ?_
  rintro e w1 ⟨rfl, hr1, hk1'⟩
  have HR1 := hide hr1
  have HK1 := hide hk1'
  clear hr1 hk1'
  go_wp2_with fail
  refine (CG.out _).mono ?_
  rintro e w2 ⟨E, rfl, rfl⟩
  go_wp2
  go_ret
  exact ⟨rfl, HR1.out, HK1.out⟩

theorem nu_range (l : ByteArray) (k : Nat) : 0 ≤ nu l k ∧ nu l k < 256 ^ k := by
  have := beN_lt l 0 k
  unfold nu
  split
  · have h2 : ((beN l 0 k : Nat) : Int) < ((256 ^ k : Nat) : Int) := Int.ofNat_lt.2 this
    refine ⟨by omega, by simpa using h2⟩
  · exact ⟨Int.le_refl _, Int.pow_pos (by decide)⟩

set_option maxHeartbeats 2000000 in
theorem ramount_any (b : Nat) (l : ByteArray) (bad : Bool) (t : Int) (w : World) (hs : l.size ≤ 140737488355328) (h : Rm b l bad w) :
    Calls Try.prog 41 #[.pointer (some ⟨b, 0, none⟩), .int .i64 t] w fun e w' => e = .returned (.int .i64 (am l t)) ∧ Rm b (amL l t) (amB l t bad) w' ∧ Km b w w' := by
  have HR := hide h
  obtain ⟨h0, h1, f0, f1⟩ := h.cells
  clear h
  by_cases h13 : t = 13
  · subst h13
    have C := hide (fun W x => mrnumber_any b l bad 1 W hs (by decide) (by decide) x)
    have hr := nu_range l 1
    obtain ⟨hr1, hr2⟩ := hr
    simp only [Int.reducePow] at hr2
    have HN : Hid (am l 13 = 13 + nu l 1 ∧ amL l 13 = tkL l 1 ∧ amB l 13 bad = tkB l 1 bad) := ⟨rfl, rfl, rfl⟩
    clear hs
    go_enter Try.func41, Try.ntmps41
    go_wp2_with fail
    refine (C.out _ HR.out).mono ?_
    rintro e w1 ⟨rfl, hr1', hk1⟩
    have HR1 := hide hr1'
    have HK1 := hide hk1
    clear hr1' hk1
    go_wp2
    go_ret
    exact ⟨by rw [HN.out.1]; rfl, by rw [HN.out.2.1, HN.out.2.2]; exact HR1.out, HK1.out⟩
  · have h13' : (t == 13) = false := by simp [h13]
    by_cases h14 : t = 14
    · subst h14
      have C := hide (fun W x => mrnumber_any b l bad 2 W hs (by decide) (by decide) x)
      have hr := nu_range l 2
      obtain ⟨hr1, hr2⟩ := hr
      simp only [Int.reducePow] at hr2
      have HN : Hid (am l 14 = 269 + nu l 2 ∧ amL l 14 = tkL l 2 ∧ amB l 14 bad = tkB l 2 bad) := ⟨rfl, rfl, rfl⟩
      clear hs h13
      go_enter Try.func41, Try.ntmps41
      go_wp2_with fail
      refine (C.out _ HR.out).mono ?_
      rintro e w1 ⟨rfl, hr1', hk1⟩
      have HR1 := hide hr1'
      have HK1 := hide hk1
      clear hr1' hk1
      go_wp2
      go_ret
      exact ⟨by rw [HN.out.1]; rfl, by rw [HN.out.2.1, HN.out.2.2]; exact HR1.out, HK1.out⟩
    · have h14' : (t == 14) = false := by simp [h14]
      have HN : Hid (am l t = t ∧ amL l t = l ∧ amB l t bad = (bad || decide (14 < t))) := by
        refine ⟨?_, ?_, ?_⟩
        · rw [am, if_neg h13, if_neg h14]
        · rw [amL, if_neg h13, if_neg h14]
        · rw [amB, if_neg h13, if_neg h14]
      by_cases hg : 14 < t
      · have HG : Hid ((bad || decide (14 < t)) = true) := by show _ = _; simp [hg]
        clear h13 h14
        go_enter Try.func41, Try.ntmps41
        go_wp2
        go_ret
        exact ⟨by rw [HN.out.1]; rfl, by rw [HN.out.2.1, HN.out.2.2, HG.out]; exact HR.out.set1 true, Km.set _ _ _ _⟩
      · have HG : Hid ((bad || decide (14 < t)) = bad) := by show _ = _; simp [hg]
        clear h13 h14
        go_enter Try.func41, Try.ntmps41
        go_wp2
        go_ret
        exact ⟨by rw [HN.out.1]; rfl, by rw [HN.out.2.1, HN.out.2.2, HG.out]; exact HR.out, Km.refl _ _⟩
end Go.Proofs.Ytedlebkpdejhiac
