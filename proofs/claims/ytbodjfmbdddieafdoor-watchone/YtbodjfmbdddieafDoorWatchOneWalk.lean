/-
  WatchOne: the walk through the law, by the contracts of what it calls.
-/
import Derived.Test.YtbodjfmbdddieafDoorWatchBegun
namespace Go.Proofs.YtbodjfmbdddieafDoor
open Go.RowKit Go.PlainAid

set_option maxHeartbeats 4000000 in
set_option maxRecDepth 100000 in
theorem watchOne_walk (l : List Wt) (ao : Option Addr) (co : Nat) (p : Int) (t n : ByteArray) (w : World) (hl : WtsIn w ao l) (hco : l.length ≤ co) (hm : Max w) :
    Calls Tryd.prog 4 #[.slice ao l.length co, .int .i64 p, .string t, .string n] w fun e w' => e = .returned (.bool true) ∧ Below w.heap.size w w' := by
  have C0 := hide (watchBegun_yes w hm)
  have CA : Hid (∀ W, Below w.heap.size w W → Calls Tryd.prog 11 #[.slice ao l.length co, .int .i64 p, .string t, .string n] W (WPost W (addA l p t n) (addE l p t n))) := fun W h => wadd_any l p t n ao co W (hl.below h) hco (hm.below h)
  by_cases hE : addE l p t n = 0
  · have hA : addA l p t n = addL l p t n := if_pos hE
    obtain ⟨tw1, tw2⟩ := add_twice hE
    obtain ⟨ca1, ca2⟩ := can_ok hE
    have hck := add_check hE
    rw [hA, hE] at CA
    have CB : Hid (∀ W aa ca, Below w.heap.size w W → WtsIn W aa (addL l p t n) → (addL l p t n).length ≤ ca → Calls Tryd.prog 11 #[.slice aa (addL l p t n).length ca, .int .i64 p, .string t, .string n] W (WPost W (addL l p t n) 0)) := fun W aa ca h hk hc => by
      have := wadd_any (addL l p t n) p t n aa ca W hk hc (hm.below h)
      have e : addA (addL l p t n) p t n = addL l p t n := by unfold addA; rw [tw1, tw2]; rfl
      rwa [tw1, e] at this
    have CC : Hid (∀ W aa ca, Below w.heap.size w W → WtsIn W aa (addL l p t n) → (addL l p t n).length ≤ ca → Calls Tryd.prog 12 #[.slice aa (addL l p t n).length ca, .int .i64 p, .string t] W (WPost W (offW l p t) 0)) := fun W aa ca h hk hc => by
      have := wcancel_any (addL l p t n) p t aa ca W hk hc (hm.below h)
      have e : canA (addL l p t n) p t = offW l p t := by unfold canA; rw [ca2, add_off]; rfl
      rwa [ca2, e] at this
    have CD : Hid (∀ W, Below w.heap.size w W → Calls Tryd.prog 12 #[.slice ao l.length co, .int .i64 p, .string t] W (WPost W (offW l p t) 0)) := fun W h => by
      have := wcancel_any l p t ao co W (hl.below h) hco (hm.below h)
      have e : canA l p t = offW l p t := by unfold canA; rw [ca1]; rfl
      rwa [ca1, e] at this
    have CK : Hid (∀ W aa ca, Below w.heap.size w W → WtsIn W aa (addL l p t n) → (addL l p t n).length ≤ ca → Calls Tryd.prog 9 #[.slice aa (addL l p t n).length ca] W fun e w' => e = .returned (.int .i64 0) ∧ Below W.heap.size W w') := fun W aa ca h hk hc => by
      have := wcheck_any (addL l p t n) aa ca W hk hc (hm.below h)
      rwa [hck] at this
    have h12 : (addL l p t n).length ≤ 12 := ((wchkK_iff _).1 hck).1
    have hlen : (addL l p t n).length = (offW l p t).length + 1 := by simp [addL]
    have hlast : ∀ h : (offW l p t).length < (addL l p t n).length, (addL l p t n)[(offW l p t).length] = ⟨p, t, n, 1⟩ := fun h => by simp [addL]
    have htk : (addL l p t n).take (offW l p t).length = offW l p t := by simp [addL]
    clear hl hm hA hE tw1 tw2 ca1 ca2 hck
    have HLEN := hide hlen
    have HLAST : Hid (∀ h : (offW l p t).length < (addL l p t n).length, (addL l p t n)[(offW l p t).length] = ⟨p, t, n, 1⟩) := hlast
    have HTK := hide htk
    clear hlen hlast htk
    generalize addL l p t n = A at *
    generalize offW l p t = X at *
    go_enter Tryd.func4, Tryd.ntmps4
    go_wp2_with fail
    refine C0.out.mono ?_
    rintro e w1 ⟨rfl, hb1⟩
    have HB1 := hide hb1
    clear hb1 C0
    go_wp2_with fail
    refine (CA.out _ HB1.out).mono ?_
    intro e w2 h2
    obtain ⟨aa, ca, rfl, hk2, hc2, hb2⟩ := h2.inn
    have HB2 := hide (below_step HB1.out hb2)
    have HK2 := hide hk2
    clear hk2 hb2 h2 HB1 CA
    go_wp2_with fail
    refine (CB.out _ _ _ HB2.out HK2.out hc2).mono ?_
    intro e w3 h3
    obtain ⟨ab, cb, rfl, hk3, hc3, hb3⟩ := h3.inn
    have HB3 := hide (below_step HB2.out hb3)
    have HK2 := hide (HK2.out.below hb3)
    have HK3 := hide hk3
    clear hk3 hb3 h3 HB2 CB
    go_wp2_with fail
    refine (CC.out _ _ _ HB3.out HK2.out hc2).mono ?_
    intro e w4 h4
    obtain ⟨ac, cc, rfl, hk4, hc4, hb4⟩ := h4.inn
    have HB4 := hide (below_step HB3.out hb4)
    have HK2 := hide (HK2.out.below hb4)
    have HK3 := hide (HK3.out.below hb4)
    have HK4 := hide hk4
    clear hk4 hb4 h4 HB3 CC
    go_wp2_with fail
    refine (CD.out _ HB4.out).mono ?_
    intro e w5 h5
    obtain ⟨ad, cd, rfl, hk5, hc5, hb5⟩ := h5.inn
    have HB5 := hide (below_step HB4.out hb5)
    have HK2 := hide (HK2.out.below hb5)
    have HK3 := hide (HK3.out.below hb5)
    have HK4 := hide (HK4.out.below hb5)
    have HK5 := hide hk5
    clear hk5 hb5 h5 HB4 CD
    have hlen := HLEN.out
    have hla := HLAST.out (by omega)
    obtain ⟨b, o, rfl, hb, hcell⟩ := wts_here HK2.out (k := X.length) (by omega)
    obtain ⟨q0, q1, q2, q3⟩ := hcell X.length (by omega)
    rw [hla] at q0 q1 q2 q3
    simp only at q0 q1 q2 q3
    have S1 : Hid (∀ W, Below w5.heap.size w5 W → Calls Tryd.prog 13 #[.slice (some ⟨b, o, none⟩) A.length ca, .slice ab A.length cb] W fun e w' => e = .returned (.bool true) ∧ Below W.heap.size W w') := fun W h => sameWatches_yes A _ ab ca cb W (HK2.out.below h) (HK3.out.below h) (by omega)
    have S2 : Hid (∀ W, Below w5.heap.size w5 W → Calls Tryd.prog 13 #[.slice ac X.length cc, .slice ad X.length cd] W fun e w' => e = .returned (.bool true) ∧ Below W.heap.size W w') := fun W h => sameWatches_yes X _ ad cc cd W (HK4.out.below h) (HK5.out.below h) (by omega)
    have S3 : Hid (∀ W, Below w5.heap.size w5 W → Calls Tryd.prog 13 #[.slice (some ⟨b, o, none⟩) X.length ca, .slice ac X.length cc] W fun e w' => e = .returned (.bool true) ∧ Below W.heap.size W w') := fun W h => by
      have hx := wts_take (HK2.out.below h) X.length
      rw [HTK.out] at hx
      exact sameWatches_yes X _ ac ca cc W hx (HK4.out.below h) (by omega)
    have S4 : Hid (∀ W, Below w5.heap.size w5 W → Calls Tryd.prog 9 #[.slice (some ⟨b, o, none⟩) A.length ca] W fun e w' => e = .returned (.int .i64 0) ∧ Below W.heap.size W w') := fun W h => CK.out W _ _ (HB5.out.trans (h.mono HB5.out.size)) (HK2.out.below h) hc2
    clear hcell HLAST HTK hla HK2 HK3 HK4 HK5 CK hb HLEN
    generalize X.length = m at *
    generalize A.length = N at *
    have hN1 : (N : Int) - 1 = (m : Int) := by omega
    have hN2 : IntKind.i64.wrap ((N : Int) - 1) = (m : Int) := by rw [hN1, IntKind.wrap_i64]; omega
    have hN3 : decide ((0 : Int) < N) = true := by simp; omega
    have hmN : m < N := by omega
    have hmc : m ≤ ca := by omega
    clear hlen
    go_wp2_with fail
    refine (S1.out _ (Below.refl _ _)).mono ?_
    rintro e w6 ⟨rfl, hb6⟩
    have HB6 := hide hb6
    clear hb6 S1
    go_wp2_with fail
    refine (S2.out _ HB6.out).mono ?_
    rintro e w7 ⟨rfl, hb7⟩
    have HB7 := hide (below_step HB6.out hb7)
    clear hb7 S2 HB6
    go_wp2_with fail
    refine (S3.out _ HB7.out).mono ?_
    rintro e w8 ⟨rfl, hb8⟩
    have HB8 := hide (below_step HB7.out hb8)
    clear hb8 S3 HB7
    go_wp2_with fail
    refine (S4.out _ HB8.out).mono ?_
    rintro e w9 ⟨rfl, hb9⟩
    have HB9 := hide (below_step HB5.out (below_step HB8.out hb9))
    clear hb9 S4 HB8 HB5
    go_wp2
    go_ret
    exact ⟨rfl, HB9.out⟩
  · have hA : addA l p t n = [] := if_neg hE
    have hE' : (addE l p t n != 0) = true := by simp [hE]
    rw [hA] at CA
    clear hl hm hE hA
    generalize addE l p t n = AE at *
    go_enter Tryd.func4, Tryd.ntmps4
    go_wp2_with fail
    refine C0.out.mono ?_
    rintro e w1 ⟨rfl, hb1⟩
    have HB1 := hide hb1
    clear hb1 C0
    go_wp2_with fail
    refine (CA.out _ HB1.out).mono ?_
    intro e w2 h2
    obtain ⟨aa, ca, rfl, hk2, hc2, hb2⟩ := h2.inn
    have HB2 := hide (below_step HB1.out hb2)
    clear hk2 hb2 h2 HB1 CA
    go_wp2
    go_ret
    exact ⟨rfl, HB2.out⟩
end Go.Proofs.YtbodjfmbdddieafDoor
