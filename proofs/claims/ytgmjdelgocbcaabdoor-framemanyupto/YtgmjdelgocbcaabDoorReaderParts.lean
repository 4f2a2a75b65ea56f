/-
  packet.reader's marked, rest, connect: what they read.
-/
import Derived.Test.YtgmjdelgocbcaabDoorReaderLoops
namespace Go.Proofs.YtgmjdelgocbcaabDoor
open Go.RowKit Go.PlainAid Go.Deep

theorem PAt.set_dup {b : Nat} {p : Pk} {va vc : Value} {w : World} (h : PAt b p va vc w) (x : Bool) : PAt b { p with dup := x } va vc (w.setCell ⟨b, 1, none⟩ (.bool x)) := by
  unfold PAt at *; simp [World.setCell, Array.getElem?_modify, h]
theorem PAt.set_retain {b : Nat} {p : Pk} {va vc : Value} {w : World} (h : PAt b p va vc w) (x : Bool) : PAt b { p with retain := x } va vc (w.setCell ⟨b, 2, none⟩ (.bool x)) := by
  unfold PAt at *; simp [World.setCell, Array.getElem?_modify, h]
theorem PAt.set_clean {b : Nat} {p : Pk} {va vc : Value} {w : World} (h : PAt b p va vc w) (x : Bool) : PAt b { p with clean := x } va vc (w.setCell ⟨b, 3, none⟩ (.bool x)) := by
  unfold PAt at *; simp [World.setCell, Array.getElem?_modify, h]
theorem PAt.set_session {b : Nat} {p : Pk} {va vc : Value} {w : World} (h : PAt b p va vc w) (x : Bool) : PAt b { p with session := x } va vc (w.setCell ⟨b, 4, none⟩ (.bool x)) := by
  unfold PAt at *; simp [World.setCell, Array.getElem?_modify, h]
theorem PAt.set_qos {b : Nat} {p : Pk} {va vc : Value} {w : World} (h : PAt b p va vc w) (x : Int) : PAt b { p with qos := x } va vc (w.setCell ⟨b, 5, none⟩ (.int .i64 x)) := by
  unfold PAt at *; simp [World.setCell, Array.getElem?_modify, h]
theorem PAt.set_id {b : Nat} {p : Pk} {va vc : Value} {w : World} (h : PAt b p va vc w) (x : Int) : PAt b { p with id := x } va vc (w.setCell ⟨b, 6, none⟩ (.int .i64 x)) := by
  unfold PAt at *; simp [World.setCell, Array.getElem?_modify, h]
theorem PAt.set_keep {b : Nat} {p : Pk} {va vc : Value} {w : World} (h : PAt b p va vc w) (x : Int) : PAt b { p with keep := x } va vc (w.setCell ⟨b, 7, none⟩ (.int .i64 x)) := by
  unfold PAt at *; simp [World.setCell, Array.getElem?_modify, h]
theorem PAt.set_code {b : Nat} {p : Pk} {va vc : Value} {w : World} (h : PAt b p va vc w) (x : Int) : PAt b { p with code := x } va vc (w.setCell ⟨b, 8, none⟩ (.int .i64 x)) := by
  unfold PAt at *; simp [World.setCell, Array.getElem?_modify, h]
theorem PAt.set_client {b : Nat} {p : Pk} {va vc : Value} {w : World} (h : PAt b p va vc w) (x : ByteArray) : PAt b { p with client := x } va vc (w.setCell ⟨b, 9, none⟩ (.string x)) := by
  unfold PAt at *; simp [World.setCell, Array.getElem?_modify, h]
theorem PAt.set_topic {b : Nat} {p : Pk} {va vc : Value} {w : World} (h : PAt b p va vc w) (x : ByteArray) : PAt b { p with topic := x } va vc (w.setCell ⟨b, 10, none⟩ (.string x)) := by
  unfold PAt at *; simp [World.setCell, Array.getElem?_modify, h]
theorem PAt.set_payload {b : Nat} {p : Pk} {va vc : Value} {w : World} (h : PAt b p va vc w) (x : ByteArray) : PAt b { p with payload := x } va vc (w.setCell ⟨b, 11, none⟩ (.string x)) := by
  unfold PAt at *; simp [World.setCell, Array.getElem?_modify, h]
theorem Rd.other {b c : Nat} {s : ByteArray} {n : Nat} {bad : Bool} {w : World} (h : Rd b s n bad w) (hne : b ≠ c) (o : Nat) (v : Value) : Rd b s n bad (w.setCell ⟨c, o, none⟩ v) := by
  unfold Rd at *; rw [Below.heap_setCell _ _ _ _ hne]; exact h

/-- a byte that is a mark, or 0 -/
def rmBad (s : ByteArray) (n : Nat) (m : Int) (bad : Bool) : Bool := rnBad s n 1 bad || !((getR s n (1 : Nat)).1 == 0 || (getR s n (1 : Nat)).1 == m)

set_option maxHeartbeats 2000000 in
theorem rmarked_any (b : Nat) (s : ByteArray) (n : Nat) (m : Int) (bad : Bool) (w : World) (hs : s.size ≤ maxLen) (hn : n ≤ s.size) (h : Rd b s n bad w) :
    Calls Tryd.prog 74 #[.pointer (some ⟨b, 0, none⟩), .int .i64 m] w fun e w' => e = .returned (.bool ((getR s n (1 : Nat)).1 == m)) ∧ Rd b s (rnAt s n 1) (rmBad s n m bad) w' ∧ Kx b b w w' := by
  have HR := hide h
  have HC : Hid (∀ W, Rd b s n bad W → Calls Tryd.prog 75 #[.pointer (some ⟨b, 0, none⟩), .int .i64 1] W fun e w' => e = .returned (.int .i64 (getR s n (1 : Nat)).1) ∧ Rd b s (rnAt s n 1) (rnBad s n 1 bad) w' ∧ Kx b b W w') := fun W h => rnumber_any b s n 1 bad W hs hn h
  clear h
  have HB : Hid (rmBad s n m bad = (rnBad s n 1 bad || !((getR s n (1 : Nat)).1 == 0 || (getR s n (1 : Nat)).1 == m))) := rfl
  revert HC HB
  generalize (getR s n (1 : Nat)).1 = v
  generalize rmBad s n m bad = bb
  intro HC HB
  by_cases h0 : v = 0
  · have h0' : (v == 0) = true := by simp [h0]
    have HBB : Hid (bb = (rnBad s n 1 bad || !true)) := by rw [HB.out, h0']; show _ = _; simp
    clear h0
    go_enter Tryd.func74, Tryd.ntmps74
    go_wp2_with fail
    refine (HC.out _ HR.out).mono ?_
    rintro e w1 ⟨rfl, hr1, hk1⟩
    have HR1 := hide hr1
    have HK1 := hide hk1
    clear hr1 hk1
    go_wp2_with fail
    refine (must_any b s _ _ true _ HR1.out).mono ?_
    rintro e w2 ⟨rfl, hr2, hk2⟩
    have HF := hide (And.intro hr2 (HK1.out.trans hk2))
    clear hr2 hk2
    go_wp2
    go_ret
    exact ⟨rfl, by rw [HBB.out]; exact HF.out.1, HF.out.2⟩
  · have h0' : (v == 0) = false := by simp [h0]
    have HBB : Hid (bb = (rnBad s n 1 bad || !(v == m))) := by rw [HB.out, h0']; show _ = _; simp
    clear h0
    go_enter Tryd.func74, Tryd.ntmps74
    go_wp2_with fail
    refine (HC.out _ HR.out).mono ?_
    rintro e w1 ⟨rfl, hr1, hk1⟩
    have HR1 := hide hr1
    have HK1 := hide hk1
    clear hr1 hk1
    go_wp2_with fail
    refine (must_any b s _ _ (v == m) _ HR1.out).mono ?_
    rintro e w2 ⟨rfl, hr2, hk2⟩
    have HF := hide (And.intro hr2 (HK1.out.trans hk2))
    clear hr2 hk2
    go_wp2
    go_ret
    exact ⟨rfl, by rw [HBB.out]; exact HF.out.1, HF.out.2⟩

set_option maxHeartbeats 2000000 in
theorem rrest_any (b : Nat) (s : ByteArray) (n : Nat) (bad : Bool) (w : World) (hs : s.size ≤ 281474976710656) (hn : n ≤ s.size) (h : Rd b s n bad w) :
    Calls Tryd.prog 87 #[.pointer (some ⟨b, 0, none⟩)] w fun e w' => e = .returned (.string (s.extract n s.size)) ∧ Rd b s s.size bad w' ∧ Kx b b w w' := by
  have HR := hide h
  obtain ⟨h0, h1, h2, h3, h4⟩ := h.cells
  clear h
  go_enter Tryd.func87, Tryd.ntmps87
  go_wp2_with fail
  go_region_with (go_at_call 68; refine (clone_any _ _ (by simp only [ByteArray.size_extract]; omega)).mono ?_; rintro x w1 ⟨rfl, hb1⟩)
  all_goals
    have HR1 := hide (Rd.below (w := w.drew) (show Rd b s n bad w.drew from HR.out) hb1)
    have HK1 := hide ((Kx.of_drew b b w 1).trans (Kx.of_below hb1))
    obtain ⟨g0, g1, g2, g3, g4⟩ := HR1.out.cells
    clear hb1
    go_wp2
    go_ret
    exact ⟨rfl, HR1.out.set1 s.size, HK1.out.trans (Kx.set _ _ _ _ _)⟩
end Go.Proofs.YtgmjdelgocbcaabDoor
/-
  packet.reader's connect, publish and withId: what they read.
-/
namespace Go.Proofs.YtgmjdelgocbcaabDoor
open Go.RowKit Go.PlainAid Go.Deep

/-- what is read of a Connect, step by step -/
def conB1 (s : ByteArray) (n : Nat) (bad : Bool) : Bool := rtBad s n bad || !((gtR s n).1.toList == [77, 81, 84, 84])
def conB2 (s : ByteArray) (n : Nat) (bad : Bool) : Bool := rnBad s (rtAt s n) 1 (conB1 s n bad) || !((getR s (rtAt s n) (1 : Nat)).1 == 4)
def conN2 (s : ByteArray) (n : Nat) : Nat := rnAt s (rtAt s n) 1
def conB3 (s : ByteArray) (n : Nat) (bad : Bool) : Bool := rmBad s (conN2 s n) 2 (conB2 s n bad)
def conN3 (s : ByteArray) (n : Nat) : Nat := rnAt s (conN2 s n) 1
def conB4 (s : ByteArray) (n : Nat) (bad : Bool) : Bool := rnBad s (conN3 s n) 2 (conB3 s n bad)
def conN4 (s : ByteArray) (n : Nat) : Nat := rnAt s (conN3 s n) 2
def conB5 (s : ByteArray) (n : Nat) (bad : Bool) : Bool := rtBad s (conN4 s n) (conB4 s n bad)
def conN5 (s : ByteArray) (n : Nat) : Nat := rtAt s (conN4 s n)
def conP (s : ByteArray) (n : Nat) (p : Pk) : Pk := { p with clean := (getR s (conN2 s n) (1 : Nat)).1 == 2, keep := (getR s (conN3 s n) (2 : Nat)).1, client := (gtR s (conN4 s n)).1 }

set_option maxHeartbeats 4000000 in
theorem rconnect_any (br bp : Nat) (s : ByteArray) (n : Nat) (bad : Bool) (p : Pk) (va vc : Value) (w : World) (hne : bp ≠ br) (hR : Rd br s n bad w) (hs : s.size ≤ maxLen) (hn : n ≤ s.size) (hP : PAt bp p va vc w) :
    Calls Tryd.prog 73 #[.pointer (some ⟨br, 0, none⟩), .pointer (some ⟨bp, 0, none⟩)] w fun e w' => e = .returned (.tuple #[]) ∧ Rd br s (conN5 s n) (conB5 s n bad) w' ∧ PAt bp (conP s n p) va vc w' ∧ Kx br bp w w' := by
  have h1 := rtAt_le hn
  have h2 : conN2 s n ≤ s.size := rnAt_le h1
  have h3 : conN3 s n ≤ s.size := rnAt_le h2
  have h4 : conN4 s n ≤ s.size := rnAt_le h3
  have C1 := hide (fun W => rtext_any br s n bad W hs hn)
  have C2 := hide (fun W b => rnumber_any br s (rtAt s n) 1 b W hs h1)
  have C3 := hide (fun W b => rmarked_any br s (conN2 s n) 2 b W hs h2)
  have C4 := hide (fun W b => rnumber_any br s (conN3 s n) 2 b W hs h3)
  have C5 := hide (fun W b => rtext_any br s (conN4 s n) b W hs h4)
  have CM := hide (fun W m b be => must_any br s m b be W)
  have HR := hide hR
  have HP := hide hP
  clear hR hP h1 h2 h3 h4
  go_enter Tryd.func73, Tryd.ntmps73
  go_wp2_with fail
  refine (C1.out _ HR.out).mono ?_
  rintro e w1 ⟨rfl, hr1, hk1⟩
  have HR1 := hide hr1
  have HK1 := hide hk1
  have HP1 := hide (HP.out.kx hk1 hne)
  clear hr1 hk1 HR HP
  go_wp2_with fail
  refine (CM.out _ _ _ ((gtR s n).1.toList == [77, 81, 84, 84]) HR1.out).mono ?_
  rintro e w2 ⟨rfl, hr2, hk2⟩
  have HR2 := hide hr2
  have HK2 := hide (HK1.out.trans hk2)
  have HP2 := hide (HP1.out.kx hk2 hne)
  clear hr2 hk2 HR1 HP1 HK1
  go_wp2_with fail
  refine (C2.out _ _ HR2.out).mono ?_
  rintro e w3 ⟨rfl, hr3, hk3⟩
  have HR3 := hide hr3
  have HK3 := hide (HK2.out.trans hk3)
  have HP3 := hide (HP2.out.kx hk3 hne)
  clear hr3 hk3 HR2 HP2 HK2
  go_wp2_with fail
  refine (CM.out _ _ _ ((getR s (rtAt s n) (1 : Nat)).1 == 4) HR3.out).mono ?_
  rintro e w4 ⟨rfl, hr4, hk4⟩
  have HR4 : Hid (Rd br s (conN2 s n) (conB2 s n bad) w4) := hr4
  have HK4 := hide (HK3.out.trans hk4)
  have HP4 := hide (HP3.out.kx hk4 hne)
  clear hr4 hk4 HR3 HP3 HK3
  go_wp2_with fail
  refine (C3.out _ _ HR4.out).mono ?_
  rintro e w5 ⟨rfl, hr5, hk5⟩
  have HR5 : Hid (Rd br s (conN3 s n) (conB3 s n bad) w5) := hr5
  have HK5 := hide (HK4.out.trans hk5)
  have HP5 := hide (HP4.out.kx hk5 hne)
  have a1 := HP5.out.cell 3
  have a2 := HP5.out.frozen 3
  clear hr5 hk5 HR4 HP4 HK4
  go_wp2_with fail
  refine (C4.out _ _ (HR5.out.other hne.symm _ _)).mono ?_
  rintro e w6 ⟨rfl, hr6, hk6⟩
  have HR6 : Hid (Rd br s (conN4 s n) (conB4 s n bad) w6) := hr6
  have HK6 := hide ((Kx.of_one (b := bp) HK5.out).trans ((Kx.set2 br bp _ _ _).trans (Kx.of_one hk6)))
  have HP6 := hide ((HP5.out.set_clean ((getR s (conN2 s n) (1 : Nat)).1 == 2)).kx hk6 hne)
  have b1 := HP6.out.cell 7
  have b2 := HP6.out.frozen 7
  clear hr6 hk6 HR5 HP5 HK5 a1 a2
  go_wp2_with fail
  refine (C5.out _ _ (HR6.out.other hne.symm _ _)).mono ?_
  rintro e w7 ⟨rfl, hr7, hk7⟩
  have HR7 : Hid (Rd br s (conN5 s n) (conB5 s n bad) w7) := hr7
  have HK7 := hide (HK6.out.trans ((Kx.set2 br bp _ _ _).trans (Kx.of_one hk7)))
  have HP7 := hide ((HP6.out.set_keep (getR s (conN3 s n) (2 : Nat)).1).kx hk7 hne)
  have c1 := HP7.out.cell 9
  have c2 := HP7.out.frozen 9
  clear hr7 hk7 HR6 HP6 HK6 b1 b2
  go_wp2
  go_end0
  exact ⟨rfl, HR7.out.other hne.symm _ _, HP7.out.set_client _, HK7.out.trans (Kx.set2 br bp _ _ _)⟩

/-- a bit of a Publish's first byte -/
def bitB (b : Nat) (m : Int) : Bool := bits .and .i64 (b : Int) m != 0
def pubN (s : ByteArray) (n b : Nat) : Nat := if bitB b 2 = true then rnAt s (rtAt s n) 2 else rtAt s n
def pubB (s : ByteArray) (n b : Nat) (bad : Bool) : Bool := if bitB b 2 = true then rnBad s (rtAt s n) 2 (rtBad s n bad) else rtBad s n bad
def pubP (s : ByteArray) (n b : Nat) (p : Pk) : Pk :=
  { p with dup := bitB b 8, retain := bitB b 1, topic := (gtR s n).1, qos := if bitB b 2 = true then 1 else p.qos, id := if bitB b 2 = true then (getR s (rtAt s n) (2 : Nat)).1 else p.id, payload := s.extract (pubN s n b) s.size }

set_option maxHeartbeats 4000000 in
theorem rpublish_any (br bp b : Nat) (s : ByteArray) (n : Nat) (bad : Bool) (p : Pk) (va vc : Value) (w : World) (hne : bp ≠ br) (hR : Rd br s n bad w) (hs : s.size ≤ 281474976710656) (hn : n ≤ s.size) (hP : PAt bp p va vc w) :
    Calls Tryd.prog 76 #[.pointer (some ⟨br, 0, none⟩), .pointer (some ⟨bp, 0, none⟩), .int .i64 b] w fun e w' => e = .returned (.tuple #[]) ∧ Rd br s s.size (pubB s n b bad) w' ∧ PAt bp (pubP s n b p) va vc w' ∧ Kx br bp w w' := by
  have hs' : s.size ≤ maxLen := by unfold maxLen; omega
  have h1 := rtAt_le hn
  have h2 : pubN s n b ≤ s.size := by unfold pubN; split; exact rnAt_le h1; exact h1
  have C1 := hide (fun W => rtext_any br s n bad W hs' hn)
  have C2 := hide (fun W b => rnumber_any br s (rtAt s n) 2 b W hs' h1)
  have C3 := hide (fun W b' => rrest_any br s (pubN s n b) b' W hs h2)
  have HR := hide hR
  have HP := hide hP
  have e1 : (bits .and .i64 (b : Int) 8 != 0) = bitB b 8 := rfl
  have e2 : (bits .and .i64 (b : Int) 1 != 0) = bitB b 1 := rfl
  have e3 : (bits .and .i64 (b : Int) 2 != 0) = bitB b 2 := rfl
  generalize hpp : pubP s n b p = pp
  generalize hpb : pubB s n b bad = bb
  have a1 := hP.cell 1
  have a2 := hP.frozen 1
  have a3 := hP.cell 2
  have a4 := hP.frozen 2
  have HPP := hide hpp
  have HPB := hide hpb
  clear hR hP h1 h2 hpp hpb
  go_enter Tryd.func76, Tryd.ntmps76
  go_wp2_with fail
  refine (C1.out _ ((HR.out.other hne.symm _ _).other hne.symm _ _)).mono ?_
  rintro e w1 ⟨rfl, hr1, hk1⟩
  have HR1 := hide hr1
  have HP1 := hide (((HP.out.set_dup (bitB b 8)).set_retain (bitB b 1)).kx hk1 hne)
  have HK1 := hide ((Kx.set2 br bp w _ _).trans ((Kx.set2 br bp _ _ _).trans (Kx.of_one hk1)))
  have c1 := HP1.out.cell 10
  have c2 := HP1.out.frozen 10
  clear hr1 hk1 HR HP a1 a2 a3 a4
  cases hq : bitB b 2 with
  | true =>
    have c3 := HP1.out.cell 5
    have c4 := HP1.out.frozen 5
    have HN : Hid (pubN s n b = rnAt s (rtAt s n) 2) := if_pos hq
    have HQ := hide hq
    rw [hq] at e3
    clear hq
    go_wp2_with fail
    refine (C2.out _ _ ((HR1.out.other hne.symm _ _).other hne.symm _ _)).mono ?_
    rintro e w2 ⟨rfl, hr2, hk2⟩
    have HR2 : Hid (Rd br s (pubN s n b) bb w2) := by
      rw [HN.out, ← HPB.out]; unfold pubB; rw [if_pos HQ.out]; exact hr2
    have HP2 := hide (((HP1.out.set_topic (gtR s n).1).set_qos 1).kx hk2 hne)
    have HK2 := hide (HK1.out.trans ((Kx.set2 br bp _ _ _).trans ((Kx.set2 br bp _ _ _).trans (Kx.of_one hk2))))
    have d1 := HP2.out.cell 6
    have d2 := HP2.out.frozen 6
    clear hr2 hk2 HR1 HP1 HK1 c1 c2 c3 c4
    go_wp2_with fail
    refine (C3.out _ _ (HR2.out.other hne.symm _ _)).mono ?_
    rintro e w3 ⟨rfl, hr3, hk3⟩
    have HR3 := hide hr3
    have HP3 := hide ((HP2.out.set_id (getR s (rtAt s n) (2 : Nat)).1).kx hk3 hne)
    have HK3 := hide (HK2.out.trans ((Kx.set2 br bp _ _ _).trans (Kx.of_one hk3)))
    have f1 := HP3.out.cell 11
    have f2 := HP3.out.frozen 11
    clear hr3 hk3 HR2 HP2 HK2 d1 d2
    go_wp2
    go_end0
    refine ⟨rfl, HR3.out.other hne.symm _ _, ?_, HK3.out.trans (Kx.set2 br bp _ _ _)⟩
    rw [← HPP.out]
    unfold pubP
    rw [if_pos HQ.out, if_pos HQ.out]
    exact HP3.out.set_payload _
  | false =>
    have HN : Hid (pubN s n b = rtAt s n) := if_neg (by rw [hq]; simp)
    have HQ : Hid (¬ bitB b 2 = true) := by show ¬ _; rw [hq]; simp
    rw [hq] at e3
    clear hq
    go_wp2_with fail
    have HR2 : Hid (Rd br s (pubN s n b) bb w1) := by
      rw [HN.out, ← HPB.out]; unfold pubB; rw [if_neg HQ.out]; exact HR1
    refine (C3.out _ _ (HR2.out.other hne.symm _ _)).mono ?_
    rintro e w3 ⟨rfl, hr3, hk3⟩
    have HR3 := hide hr3
    have HP3 := hide ((HP1.out.set_topic (gtR s n).1).kx hk3 hne)
    have HK3 := hide (HK1.out.trans ((Kx.set2 br bp _ _ _).trans (Kx.of_one hk3)))
    have f1 := HP3.out.cell 11
    have f2 := HP3.out.frozen 11
    clear hr3 hk3 HR2 HP1 HK1 c1 c2
    go_wp2
    go_end0
    refine ⟨rfl, HR3.out.other hne.symm _ _, ?_, HK3.out.trans (Kx.set2 br bp _ _ _)⟩
    rw [← HPP.out]
    unfold pubP
    rw [if_neg HQ.out, if_neg HQ.out]
    exact HP3.out.set_payload _

/-- what is read of those with an Id -/
def widR (s : ByteArray) (n : Nat) (bad : Bool) (p : Pk) : Pk × Nat × Bool :=
  if p.kind = 8 ∨ p.kind = 10 then
    ({ p with id := (getR s n (2 : Nat)).1, asks := (rAsks s p.kind (s.size + 1) (rnAt s n 2) (rnBad s n 2 bad) []).1 }, (rAsks s p.kind (s.size + 1) (rnAt s n 2) (rnBad s n 2 bad) []).2)
  else if p.kind = 9 then
    ({ p with id := (getR s n (2 : Nat)).1, codes := (rCodes s (s.size + 1) (rnAt s n 2) (rnBad s n 2 bad) []).1 }, (rCodes s (s.size + 1) (rnAt s n 2) (rnBad s n 2 bad) []).2)
  else ({ p with id := (getR s n (2 : Nat)).1 }, rnAt s n 2, rnBad s n 2 bad)

set_option maxHeartbeats 4000000 in
theorem rwithId_any (B br bp : Nat) (s : ByteArray) (n : Nat) (bad : Bool) (p : Pk) (w : World) (hB1 : B ≤ br) (hB2 : B ≤ bp) (hB : B ≤ w.heap.size) (hne : bp ≠ br) (hR : Rd br s n bad w) (hs : s.size ≤ maxLen) (hn : n ≤ s.size) (hP : PAt bp p (.slice none 0 0) (.slice none 0 0) w) (hpa : p.asks = []) (hpc : p.codes = []) :
    Calls Tryd.prog 77 #[.pointer (some ⟨br, 0, none⟩), .pointer (some ⟨bp, 0, none⟩)] w fun e w' => e = .returned (.tuple #[]) ∧
      ∃ va vc, Rd br s (widR s n bad p).2.1 (widR s n bad p).2.2 w' ∧ PAt bp (widR s n bad p).1 va vc w' ∧ w'.ownsRow B 60 2 va (widR s n bad p).1.asks.length (askCells (widR s n bad p).1.asks) ∧ w'.ownsRow B 3 1 vc (widR s n bad p).1.codes.length (intCells (widR s n bad p).1.codes) ∧ Below B w w' ∧ (∀ k o, w.heap[k]? = some o → k ≠ br → k ≠ bp → (∀ c fz, o ≠ .cells c 60 fz) → (∀ c fz, o ≠ .cells c 3 fz) → w'.heap[k]? = some o) := by
  have h1 : rnAt s n 2 ≤ s.size := rnAt_le hn
  have C1 := hide (fun W => rnumber_any br s n 2 bad W hs hn)
  have C2 := hide (fun W x y => rasks_any B br bp s (rnAt s n 2) (rnBad s n 2 bad) { p with id := (getR s n (2 : Nat)).1 } x y W hB1 hB2)
  have C3 := hide (fun W x y => rcodes_any B br bp s (rnAt s n 2) (rnBad s n 2 bad) { p with id := (getR s n (2 : Nat)).1 } x y W hB1 hB2)
  generalize hww : widR s n bad p = R
  have HWW := hide hww
  have HR := hide hR
  have HP := hide hP
  have HS := hide hs
  have HPA := hide hpa
  have HPC := hide hpc
  clear hR hP hs hww hpa hpc
  go_enter Tryd.func77, Tryd.ntmps77
  go_wp2_with fail
  refine (C1.out _ HR.out).mono ?_
  rintro e w1 ⟨rfl, hr1, hk1⟩
  have HP1 := hide (HP.out.kx hk1 hne)
  have HR1 := hide hr1
  have HK1 := hide hk1
  have hs1 := hk1.size
  have c1 := HP1.out.cell 6
  have c2 := HP1.out.frozen 6
  have c3 := HP1.out.cell 0
  clear hr1 hk1 HP HR
  go_upto_region 1 with fail
  have HR2 := hide (HR1.out.other hne.symm 6 (.int .i64 (getR s n (2 : Nat)).1))
  have HP2 := hide (HP1.out.set_id (getR s n (2 : Nat)).1)
  have HK2 := hide ((Kx.of_one (b := bp) HK1.out).trans (Kx.set2 br bp w1 6 (.int .i64 (getR s n (2 : Nat)).1)))
  have hs2 : w1.heap.size ≤ (w1.setCell ⟨bp, 6, none⟩ (.int .i64 (getR s n (2 : Nat)).1)).heap.size := by simp [World.setCell]
  revert HR2 HP2 HK2 hs2
  generalize w1.setCell ⟨bp, 6, none⟩ (.int .i64 (getR s n (2 : Nat)).1) = W
  intro HR2 HP2 HK2 hs2
  have d0 : W.cell? ⟨bp, 0, none⟩ = some (.int .i64 p.kind) := HP2.out.cell 0
  have HBW : Hid (Below B w W) := HK2.out.below hB hB1 hB2
  have HOT : Hid (∀ k o, w.heap[k]? = some o → k ≠ br → k ≠ bp → W.heap[k]? = some o) := fun k o hk h1 h2 => by rw [HK2.out.block k (Array.getElem?_eq_some_iff.1 hk).1 h1 h2]; exact hk
  clear c1 c2 c3 HR1 HP1 HK1
  by_cases h8 : p.kind = 8 ∨ p.kind = 10
  · have HW : Hid (R = ({ p with id := (getR s n (2 : Nat)).1, asks := (rAsks s p.kind (s.size + 1) (rnAt s n 2) (rnBad s n 2 bad) []).1 }, (rAsks s p.kind (s.size + 1) (rnAt s n 2) (rnBad s n 2 bad) []).2)) := HWW.out.symm.trans (if_pos h8)
    have HCA := hide (C2.out W (.slice none 0 0) (.slice none 0 0) (by omega) hne HR2.out HS.out h1 HP2.out (World.ownsRow_nil _ _ _ _))
    have hk8 : (p.kind == 8) = true ∨ ((p.kind == 8) = false ∧ (p.kind == 10) = true) := by
      rcases h8 with h8 | h8
      · left; simp [h8]
      · right; simp [h8]
    clear h8
    rcases hk8 with hk8 | ⟨hk8, hk10⟩
    all_goals
      go_wp2_with fail
      refine HCA.out.mono ?_
      rintro e w2 ⟨rfl, va', g1, g2, g3, g4⟩
      have HF : Hid (Rd br s R.2.1 R.2.2 w2 ∧ PAt bp R.1 va' (.slice none 0 0) w2 ∧ w2.ownsRow B 60 2 va' R.1.asks.length (askCells R.1.asks) ∧ w2.ownsRow B 3 1 (.slice none 0 0) R.1.codes.length (intCells R.1.codes) ∧ Below B w w2 ∧ (∀ k o, w.heap[k]? = some o → k ≠ br → k ≠ bp → (∀ c fz, o ≠ .cells c 60 fz) → (∀ c fz, o ≠ .cells c 3 fz) → w2.heap[k]? = some o)) := by
        rw [HW.out]
        refine ⟨g1, g2, g3, ?_, HBW.out.trans g4.below, fun k o hk h1 h2 h3 h4 => g4.others k o (HOT.out k o hk h1 h2) h1 h2 h3⟩
        simp only
        rw [HPC.out]
        exact World.ownsRow_nil _ _ _ _
      clear g1 g2 g3 g4
      go_wp2
      go_end0
      exact ⟨rfl, va', _, HF.out⟩
  · by_cases h9 : p.kind = 9
    · have HW : Hid (R = ({ p with id := (getR s n (2 : Nat)).1, codes := (rCodes s (s.size + 1) (rnAt s n 2) (rnBad s n 2 bad) []).1 }, (rCodes s (s.size + 1) (rnAt s n 2) (rnBad s n 2 bad) []).2)) := HWW.out.symm.trans ((if_neg h8).trans (if_pos h9))
      have HCA := hide (C3.out W (.slice none 0 0) (.slice none 0 0) (by omega) hne HR2.out HS.out h1 HP2.out (World.ownsRow_nil _ _ _ _))
      have e8 : (p.kind == 8) = false := by simp; omega
      have e10 : (p.kind == 10) = false := by simp; omega
      have e9 : (p.kind == 9) = true := by simp [h9]
      clear h8 h9
      go_wp2_with fail
      refine HCA.out.mono ?_
      rintro e w2 ⟨rfl, va', g1, g2, g3, g4⟩
      have HF : Hid (Rd br s R.2.1 R.2.2 w2 ∧ PAt bp R.1 (.slice none 0 0) va' w2 ∧ w2.ownsRow B 60 2 (.slice none 0 0) R.1.asks.length (askCells R.1.asks) ∧ w2.ownsRow B 3 1 va' R.1.codes.length (intCells R.1.codes) ∧ Below B w w2 ∧ (∀ k o, w.heap[k]? = some o → k ≠ br → k ≠ bp → (∀ c fz, o ≠ .cells c 60 fz) → (∀ c fz, o ≠ .cells c 3 fz) → w2.heap[k]? = some o)) := by
        rw [HW.out]
        refine ⟨g1, g2, ?_, g3, HBW.out.trans g4.below, fun k o hk h1 h2 h3 h4 => g4.others k o (HOT.out k o hk h1 h2) h1 h2 h4⟩
        simp only
        rw [HPA.out]
        exact World.ownsRow_nil _ _ _ _
      clear g1 g2 g3 g4
      go_wp2
      go_end0
      exact ⟨rfl, _, va', HF.out⟩
    · have HW : Hid (R = ({ p with id := (getR s n (2 : Nat)).1 }, rnAt s n 2, rnBad s n 2 bad)) := HWW.out.symm.trans ((if_neg h8).trans (if_neg h9))
      have e8 : (p.kind == 8) = false := by simp; omega
      have e10 : (p.kind == 10) = false := by simp; omega
      have e9 : (p.kind == 9) = false := by simp; omega
      have HF : Hid (Rd br s R.2.1 R.2.2 W ∧ PAt bp R.1 (.slice none 0 0) (.slice none 0 0) W ∧ W.ownsRow B 60 2 (.slice none 0 0) R.1.asks.length (askCells R.1.asks) ∧ W.ownsRow B 3 1 (.slice none 0 0) R.1.codes.length (intCells R.1.codes) ∧ Below B w W ∧ (∀ k o, w.heap[k]? = some o → k ≠ br → k ≠ bp → (∀ c fz, o ≠ .cells c 60 fz) → (∀ c fz, o ≠ .cells c 3 fz) → W.heap[k]? = some o)) := by
        rw [HW.out]
        refine ⟨HR2.out, HP2.out, ?_, ?_, HBW.out, fun k o hk h1 h2 _ _ => HOT.out k o hk h1 h2⟩
        · simp only; rw [HPA.out]; exact World.ownsRow_nil _ _ _ _
        · simp only; rw [HPC.out]; exact World.ownsRow_nil _ _ _ _
      clear h8 h9
      go_wp2
      go_end0
      exact ⟨rfl, _, _, HF.out⟩
end Go.Proofs.YtgmjdelgocbcaabDoor
