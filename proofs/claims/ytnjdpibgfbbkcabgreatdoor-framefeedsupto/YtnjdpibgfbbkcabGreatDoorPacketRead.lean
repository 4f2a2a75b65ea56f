/-
  packet.read and Decode: what they answer.
-/
import Derived.Test.YtnjdpibgfbbkcabGreatDoorReaderPks
import Derived.Test.YtnjdpibgfbbkcabGreatDoorReaderPk12
import Derived.BigRegion
namespace Go.Proofs.YtnjdpibgfbbkcabGreatDoor
open Go.RowKit Go.PlainAid Go.Deep

theorem rpacket_any (B br b : Nat) (s : ByteArray) (n : Nat) (bad : Bool) (w : World) (hb : b < 256) (hB1 : B ≤ br) (hB : B ≤ w.heap.size) (hR : Rd br s n bad w) (hs : s.size ≤ 281474976710656) (hn : n ≤ s.size) :
    Calls Tryz.prog 42 #[.pointer (some ⟨br, 0, none⟩), .int .i64 b] w fun e w' => ∃ aa ca ac cc, e = .returned (pkV (packR s n bad b).1 aa ca ac cc) ∧ PkInB B w' (packR s n bad b).1 aa ac ∧ Rd br s (packR s n bad b).2.1 (packR s n bad b).2.2 w' ∧ Below B w w' := by
  by_cases h : (kPk b).kind = 1 ∨ (kPk b).kind = 2 ∨ (kPk b).kind = 3 ∨ (kPk b).kind = 12 ∨ (kPk b).kind = 13 ∨ (kPk b).kind = 14
  · rcases h with h | h | h | h | h | h
    · exact rpacket_1 B br b s n bad w hb hB1 hB hR hs hn h
    · exact rpacket_2 B br b s n bad w hb hB1 hB hR hs hn h
    · exact rpacket_3 B br b s n bad w hb hB1 hB hR hs hn h
    · exact rpacket_12 B br b s n bad w hb hB1 hB hR hs hn h
    · exact rpacket_13 B br b s n bad w hb hB1 hB hR hs hn h
    · exact rpacket_14 B br b s n bad w hb hB1 hB hR hs hn h
  · exact rpacket_id B br b s n bad w hb hB1 hB hR hs hn h

/-- is there a packet's length? -/
def lenOk (s : ByteArray) : Bool := (glR s 1).2.2 == 0 && (glR s 1).1 == (s.size : Int) - 1 - (glR s 1).2.1
/-- the packet that has just these bytes, right or wrong otherwise -/
def rdP (s : ByteArray) : Pk := if lenOk s = true then (packR s (1 + (glR s 1).2.1.toNat) false (bt s 0).toNat).1 else zeroPk
def rdB (s : ByteArray) : Bool := lenOk s && (!(packR s (1 + (glR s 1).2.1.toNat) false (bt s 0).toNat).2.2 && decide ((packR s (1 + (glR s 1).2.1.toNat) false (bt s 0).toNat).2.1 = s.size))

theorem glGo_ok (s : ByteArray) (a : Nat) : ∀ (f i : Nat) (m : Int), 0 ≤ m → (glGo s a f i m).2.2 = 0 → 0 ≤ (glGo s a f i m).1 ∧ (i : Int) + 1 ≤ (glGo s a f i m).2.1 ∧ (glGo s a f i m).2.1 ≤ i + f ∧ (a : Int) + (glGo s a f i m).2.1 ≤ s.size := by
  intro f
  induction f with
  | zero => intro i m _ h; simp [glGo] at h
  | succ f ih =>
    intro i m hm h
    have hb := bt_nonneg s (a + i)
    have hpow : (0 : Int) ≤ bt s (a + i) % 128 * 128 ^ i := Int.mul_nonneg (by omega) (by exact Int.le_of_lt (Int.pow_pos (by decide)))
    unfold glGo at h ⊢
    split at h
    · simp at h
    · rename_i h1
      rw [if_neg h1]
      split at h
      · rename_i h2
        rw [if_pos h2]
        have := ih (i + 1) _ (by omega) h
        refine ⟨this.1, by omega, by omega, this.2.2.2⟩
      · rename_i h2
        rw [if_neg h2]
        split at h
        · simp at h
        · rename_i h3
          rw [if_neg h3]
          simp only
          refine ⟨by omega, by omega, by omega, by omega⟩

theorem lenOk_ok {s : ByteArray} (h : lenOk s = true) : ∃ u : Nat, (glR s 1).2.1 = u ∧ (glR s 1).2.2 = 0 ∧ 1 ≤ u ∧ u ≤ 4 ∧ 1 + u ≤ s.size ∧ (glR s 1).1 = (s.size : Int) - 1 - u := by
  simp only [lenOk, Bool.and_eq_true, beq_iff_eq] at h
  have h1 := h.1
  unfold glR at h1
  split at h1
  · simp at h1
  · rename_i h2
    have e : glR s 1 = glGo s 1 4 0 0 := by unfold glR; rw [if_neg h2]; rfl
    have := glGo_ok s 1 4 0 0 (by decide) h1
    rw [← e] at this
    have hu : 0 ≤ (glR s 1).2.1 := by omega
    obtain ⟨u, hu'⟩ := Int.eq_ofNat_of_zero_le hu
    refine ⟨u, hu', h.1, by omega, by omega, by omega, by rw [← hu']; exact h.2⟩

theorem zero_in (w : World) : PkIn w zeroPk none none := ⟨.inl rfl, .inl rfl⟩

set_option maxHeartbeats 8000000 in
theorem read_no (s : ByteArray) (w : World) (hs : s.size ≤ maxLen) (h : lenOk s = false) :
    Calls Tryz.prog 20 #[.string s] w fun e w' => e = .returned (.tuple #[pkV zeroPk none 0 none 0, .bool false]) ∧ Below w.heap.size w w' := by
  have hs' := hide hs
  unfold maxLen at hs
  have HG := hide (getLong_any s 1 w.drew hs'.out)
  have HC : Hid (∀ W, Calls Tryz.prog 40 #[.string s, .int .i64 1] W fun e w' => e = .returned (.tuple #[.int .i64 (glR s 1).1, .int .i64 (glR s 1).2.1, .int .i64 (glR s 1).2.2]) ∧ w' = W) := fun W => getLong_any s 1 W hs'.out
  have hb : (glR s 1).2.2 = 0 → 0 ≤ (glR s 1).2.1 ∧ (glR s 1).2.1 ≤ 4 := by
    intro h1
    unfold glR at h1 ⊢
    split at h1
    · simp at h1
    · rename_i h2
      rw [if_neg h2]
      have := glGo_ok s 1 4 0 0 (by decide) h1
      simp only [Int.toNat_one] at *
      omega
  unfold lenOk at h
  clear HG
  revert HC h hb
  generalize glR s 1 = g
  obtain ⟨v, u, e⟩ := g
  simp only
  intro h HC hb
  by_cases he : e = 0
  · have hu := hb he
    subst he
    have hne : (v != (s.size : Int) - 1 - u) = true := by simpa using h
    clear h hb
    go_enter Tryz.func20, Tryz.ntmps20
    go_wp2_with (go_at_call 40; refine (HC.out _).mono ?_; rintro x w' ⟨rfl, rfl⟩)
    refine bodyPost_ret (v := .tuple #[pkV zeroPk none 0 none 0, .bool false]) (by simp [results, Tryz.results20, go_sem, pkV, zeroPk]) rfl ⟨rfl, ?_⟩
    repeat (first | refine Below.setCell ?_ (by first | simp | (simp; omega)) _ | refine Below.alloc ?_ (by first | simp | (simp; omega)) _ | exact Below.refl _ _)
  · have he' : (e != 0) = true := by simp [he]
    clear h hb he
    go_enter Tryz.func20, Tryz.ntmps20
    go_wp2_with (go_at_call 40; refine (HC.out _).mono ?_; rintro x w' ⟨rfl, rfl⟩)
    refine bodyPost_ret (v := .tuple #[pkV zeroPk none 0 none 0, .bool false]) (by simp [results, Tryz.results20, go_sem, pkV, zeroPk]) rfl ⟨rfl, ?_⟩
    repeat (first | refine Below.setCell ?_ (by first | simp | (simp; omega)) _ | refine Below.alloc ?_ (by first | simp | (simp; omega)) _ | exact Below.refl _ _)

end Go.Proofs.YtnjdpibgfbbkcabGreatDoor
/-
  packet.read: what it answers where there is a packet's length.
-/
namespace Go.Proofs.YtnjdpibgfbbkcabGreatDoor
open Go.RowKit Go.PlainAid Go.Deep

theorem glGo_le4 (s : ByteArray) (a : Nat) : ∀ (f i : Nat) (m : Int), 0 ≤ m → m < 128 ^ i → (glGo s a f i m).2.2 = 0 → (glGo s a f i m).1 < 128 ^ (i + f) := by
  intro f
  induction f with
  | zero => intro i m _ _ h; simp [glGo] at h
  | succ f ih =>
    intro i m hm0 hm h
    have hb := bt_nonneg s (a + i)
    have hpos : (0 : Int) < 128 ^ i := Int.pow_pos (by decide)
    have hmul : bt s (a + i) % 128 * 128 ^ i ≤ 127 * 128 ^ i := Int.mul_le_mul_of_nonneg_right (by omega) (by omega)
    have hmul0 : (0 : Int) ≤ bt s (a + i) % 128 * 128 ^ i := Int.mul_nonneg (by omega) (by omega)
    have hsucc : (128 : Int) ^ (i + 1) = 128 ^ i * 128 := Int.pow_succ _ _
    unfold glGo at h ⊢
    split at h
    · simp at h
    · rename_i h1
      rw [if_neg h1]
      split at h
      · rename_i h2
        rw [if_pos h2]
        have := ih (i + 1) _ (by omega) (by omega) h
        rwa [show i + 1 + f = i + (f + 1) by omega] at this
      · rename_i h2
        rw [if_neg h2]
        split at h
        · simp at h
        · rename_i h3
          rw [if_neg h3]
          simp only
          have hmono : (128 : Int) ^ (i + 1) ≤ 128 ^ (i + (f + 1)) := by
            rw [show i + (f + 1) = (i + 1) + f by omega, Int.pow_add (128 : Int) (i + 1) f]
            have : (1 : Int) ≤ 128 ^ f := Int.add_one_le_of_lt (Int.pow_pos (by decide))
            have h5 : (0 : Int) ≤ 128 ^ (i + 1) := by omega
            have h6 := Int.mul_le_mul_of_nonneg_left this h5
            rw [Int.mul_one] at h6
            exact h6
          omega
theorem glGo_le (s : ByteArray) (a : Nat) (h : (glGo s a 4 0 0).2.2 = 0) : (glGo s a 4 0 0).1 ≤ 268435455 := by
  have := glGo_le4 s a 4 0 0 (by decide) (by decide) h
  have e : (128 : Int) ^ (0 + 4) = 268435456 := by decide
  omega

theorem nat_beq (m n : Nat) : ((m : Int) == (n : Int)) = decide (m = n) := by
  rw [Bool.eq_iff_iff]; simp; omega

theorem read_final {w W3 W' : World} {q : Pk} {aa ac : Option Addr} (h : PkInB (w.heap.size + 1) W3 q aa ac) (hb : Below w.heap.size w W3) (hs : w.heap.size ≤ W3.heap.size) (hk : Kx w.heap.size w.heap.size W3 W') : PkInB w.heap.size W' q aa ac ∧ Below w.heap.size w W' :=
  ⟨h.keep (by omega) hk.size (fun k h1 h2 => hk.block k h2 (by omega) (by omega)), hb.trans (hk.below hs (Nat.le_refl _) (Nat.le_refl _))⟩

set_option maxHeartbeats 8000000 in
theorem read_yes (s : ByteArray) (w : World) (h : lenOk s = true) (hs : s.size ≤ 281474976710656) :
    Calls Tryz.prog 20 #[.string s] w fun e w' => ∃ aa ca ac cc, e = .returned (.tuple #[pkV (rdP s) aa ca ac cc, .bool (rdB s)]) ∧ PkInB w.heap.size w' (rdP s) aa ac ∧ Below w.heap.size w w' := by
  have hs' : s.size ≤ maxLen := by unfold maxLen; omega
  obtain ⟨u, hu, he, hu1, hu4, hus, hv⟩ := lenOk_ok h
  have hpos : 0 < s.size := Nat.lt_of_lt_of_le (Nat.lt_of_lt_of_le Nat.zero_lt_one (Nat.le_add_right 1 u)) hus
  have hix := get_bt s 0 hpos
  have HC : Hid (∀ W, Calls Tryz.prog 40 #[.string s, .int .i64 1] W fun e w' => e = .returned (.tuple #[.int .i64 ((s.size : Int) - 1 - u), .int .i64 u, .int .i64 0]) ∧ w' = W) := fun W => by
    have := getLong_any s 1 W hs'
    rwa [hu, he, hv] at this
  obtain ⟨b, hb⟩ : ∃ b : Nat, (bt s 0).toNat = b := ⟨_, rfl⟩
  have hb0 := bt_nonneg s 0
  have hb1 := bt_le s 0
  have hbb : bt s 0 = (b : Int) := by omega
  have hbl : (b : Int) ≤ 255 := hbb ▸ hb1
  have h1u : 1 + (glR s 1).2.1.toNat = 1 + u := by rw [hu]; rfl
  have hrd : rdP s = (packR s (1 + u) false b).1 := by unfold rdP; rw [if_pos h, h1u, hb]
  have hrb : rdB s = (!(packR s (1 + u) false b).2.2 && decide ((packR s (1 + u) false b).2.1 = s.size)) := by unfold rdB; rw [h, h1u, hb]; simp
  rw [hrd, hrb]
  rw [hbb] at hix
  have C : Hid (∀ B br W, B ≤ br → B ≤ W.heap.size → Rd br s (1 + u) false W → Calls Tryz.prog 42 #[.pointer (some ⟨br, 0, none⟩), .int .i64 b] W fun e w' => ∃ aa ca ac cc, e = .returned (pkV (packR s (1 + u) false b).1 aa ca ac cc) ∧ PkInB B w' (packR s (1 + u) false b).1 aa ac ∧ Rd br s (packR s (1 + u) false b).2.1 (packR s (1 + u) false b).2.2 w' ∧ Below B W w') := fun B br W g1 g2 g3 => rpacket_any B br b s (1 + u) false W (by omega) g1 g2 g3 hs (by omega)
  clear hrd hrb h hu he hv h1u hb hbb hb0 hb1
  revert C
  generalize packR s (1 + u) false b = R
  obtain ⟨q, m, bd⟩ := R
  simp only
  intro C
  have hne : (((s.size : Int) - 1 - u) != (s.size : Int) - 1 - u) = false := by simp
  have HCA : Hid (((1 + u : Nat) : Int) = 1 + (u : Int)) := by show _ = _; omega
  have hh2 := heap2 w (.cells #[.int .i64 0, .bool false, .bool false, .bool false, .bool false, .int .i64 0, .int .i64 0, .int .i64 0, .int .i64 0, .string ⟨#[]⟩, .string ⟨#[]⟩, .string ⟨#[]⟩, .slice none 0 0, .slice none 0 0] 35) (.cells #[.string s, .int .i64 (1 + (u : Int)), .bool false] 78)
  have HH2 := hide hh2
  clear hh2
  go_enter Tryz.func20, Tryz.ntmps20
  go_wp2_with (go_at_call 40; refine (HC.out _).mono ?_; rintro x w' ⟨rfl, rfl⟩)
  refine Calls.mono (C.out (w.heap.size + 1) (w.heap.size + 1) _ (Nat.le_refl _) (by simp) ?rd) ?_
  case rd => unfold Rd; rw [HCA.out]; exact HH2.out.2
  rintro e w2 ⟨aa, ca, ac, cc, rfl, hin, hr, hb2⟩
  have HZ2 : Hid (PAt w.heap.size zeroPk (.slice none 0 0) (.slice none 0 0) w2) := by show _ = _; rw [hb2.block w.heap.size (by omega)]; exact HH2.out.1
  have HR2 := hide hr
  have HIN := hide hin
  have hs2 := hb2.size
  simp only [World.size_alloc] at hs2
  have HB2 : Hid (Below w.heap.size w w2) := (((Below.refl w.heap.size w).alloc (Nat.le_refl _) _).alloc (by simp) _).trans (hb2.mono (by omega))
  clear hin hr hb2 HH2
  simp only [pkV]
  go_upto_region 6 with fail
  have HP3 : Hid (PAt w2.heap.size q (.slice aa q.asks.length ca) (.slice ac q.codes.length cc) (w2.alloc (.cells #[.int .i64 q.kind, .bool q.dup, .bool q.retain, .bool q.clean, .bool q.session, .int .i64 q.qos, .int .i64 q.id, .int .i64 q.keep, .int .i64 q.code, .string q.client, .string q.topic, .string q.payload, .slice aa q.asks.length ca, .slice ac q.codes.length cc] 35))) := Go.heap_alloc_new w2 _
  have HBB : Hid (Below w2.heap.size w2 (w2.alloc (.cells #[.int .i64 q.kind, .bool q.dup, .bool q.retain, .bool q.clean, .bool q.session, .int .i64 q.qos, .int .i64 q.id, .int .i64 q.keep, .int .i64 q.code, .string q.client, .string q.topic, .string q.payload, .slice aa q.asks.length ca, .slice ac q.codes.length cc] 35))) := (Below.refl _ _).alloc (Nat.le_refl _) _
  revert HP3 HBB
  generalize w2.alloc (.cells #[.int .i64 q.kind, .bool q.dup, .bool q.retain, .bool q.clean, .bool q.session, .int .i64 q.qos, .int .i64 q.id, .int .i64 q.keep, .int .i64 q.code, .string q.client, .string q.topic, .string q.payload, .slice aa q.asks.length ca, .slice ac q.codes.length cc] 35) = W3
  intro HP3 HBB
  have HR3 := hide (HR2.out.below HBB.out)
  have HZ3 : Hid (PAt w.heap.size zeroPk (.slice none 0 0) (.slice none 0 0) W3) := by have := HZ2.out; unfold PAt at *; show _ = _; rw [HBB.out.block _ (by omega)]; exact this
  have HIN3 := hide (HIN.out.keep (Nat.le_refl _) HBB.out.size (fun k _ hk => HBB.out.block k hk))
  have hsb := HBB.out.size
  have HB3 := hide (HB2.out.trans (HBB.out.mono (by omega)))
  have x1 := HP3.out.cell
  have z1 := HZ3.out.cell
  have z2 := HZ3.out.frozen
  obtain ⟨y0, y1, y2, _, _⟩ := HR3.out.cells
  clear HR2 HZ2 HIN HB2 HBB hne HC C
  cases bd with
  | true =>
    go_wp2_with fail
    go_region
    all_goals
      go_wp2
      refine bodyPost_ret (v := .tuple #[pkV q aa ca ac cc, .bool false]) (by simp [results, Tryz.results20, go_sem, pkV, z1, World.cell?_setCell_same]) rfl ⟨aa, ca, ac, cc, rfl, ?_⟩
      refine read_final HIN3.out HB3.out (by omega) ?_
      refine Kx.drew ?_
      repeat (first | refine Kx.trans ?_ (Kx.set _ _ _ _ _) | exact Kx.refl _ _ _)
  | false =>
    go_wp2_with fail
    go_region
    all_goals
      go_wp2
      refine bodyPost_ret (v := .tuple #[pkV q aa ca ac cc, .bool ((m : Int) == (s.size : Int))]) (by simp [results, Tryz.results20, go_sem, pkV, z1, World.cell?_setCell_same]) rfl ⟨aa, ca, ac, cc, by rw [nat_beq]; rfl, ?_⟩
      refine read_final HIN3.out HB3.out (by omega) ?_
      refine Kx.drew ?_
      repeat (first | refine Kx.trans ?_ (Kx.set _ _ _ _ _) | exact Kx.refl _ _ _)
end Go.Proofs.YtnjdpibgfbbkcabGreatDoor
