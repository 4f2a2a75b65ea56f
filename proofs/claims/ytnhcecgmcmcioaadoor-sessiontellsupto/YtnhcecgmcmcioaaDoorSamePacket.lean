/-
  dragomanref.SamePacket of a packet and itself: true, wherever its lists lie.
-/
import Derived.Test.YtnhcecgmcmcioaaDoorPacketCheck
import Derived.Deep.QuietTactic
import Derived.BigQuiet
namespace Go.Proofs.YtnhcecgmcmcioaaDoor
open Go.RowKit Go.PlainAid

set_option maxHeartbeats 8000000 in
set_option maxRecDepth 100000 in
theorem same_yes (p : Pk) (aa ac ab ad : Option Addr) (ca cc cb cd : Nat) (w : World) (h1 : PkIn w p aa ac) (h2 : PkIn w p ab ad) (hla : p.asks.length ≤ 6) (hlc : p.codes.length ≤ 6) :
    Calls Tryd.prog 54 #[pkV p aa ca ac cc, pkV p ab cb ad cd] w fun e w' => e = .returned (.bool true) ∧ Below w.heap.size w w' := by
  have H1 := hide h1
  have H2 := hide h2
  clear h1 h2
  obtain ⟨k, d, r, c, s, q, i, kp, cd', cl, tp, pl, l, cs⟩ := p
  simp only [pkV]
  simp only at hla hlc
  go_enter Tryd.func54, Tryd.ntmps54
  go_upto_region 4 with fail
  have hB : Below w.heap.size w ((w.alloc (.cells #[.int .i64 k, .bool d, .bool r, .bool c, .bool s, .int .i64 q, .int .i64 i, .int .i64 kp, .int .i64 cd', .string cl, .string tp, .string pl, .slice aa l.length ca, .slice ac cs.length cc] 57)).alloc (.cells #[.int .i64 k, .bool d, .bool r, .bool c, .bool s, .int .i64 q, .int .i64 i, .int .i64 kp, .int .i64 cd', .string cl, .string tp, .string pl, .slice ab l.length cb, .slice ad cs.length cd] 57)) := ((Below.refl _ _).alloc (Nat.le_refl _) _).alloc (by simp) _
  have c1 : ∀ o, ((w.alloc (.cells #[.int .i64 k, .bool d, .bool r, .bool c, .bool s, .int .i64 q, .int .i64 i, .int .i64 kp, .int .i64 cd', .string cl, .string tp, .string pl, .slice aa l.length ca, .slice ac cs.length cc] 57)).alloc (.cells #[.int .i64 k, .bool d, .bool r, .bool c, .bool s, .int .i64 q, .int .i64 i, .int .i64 kp, .int .i64 cd', .string cl, .string tp, .string pl, .slice ab l.length cb, .slice ad cs.length cd] 57)).cell? ⟨w.heap.size, o, none⟩ = (#[.int .i64 k, .bool d, .bool r, .bool c, .bool s, .int .i64 q, .int .i64 i, .int .i64 kp, .int .i64 cd', .string cl, .string tp, .string pl, .slice aa l.length ca, .slice ac cs.length cc] : Array Value)[o]? := fun o => by
    have h0 : ((w.alloc (.cells #[.int .i64 k, .bool d, .bool r, .bool c, .bool s, .int .i64 q, .int .i64 i, .int .i64 kp, .int .i64 cd', .string cl, .string tp, .string pl, .slice aa l.length ca, .slice ac cs.length cc] 57)).alloc (.cells #[.int .i64 k, .bool d, .bool r, .bool c, .bool s, .int .i64 q, .int .i64 i, .int .i64 kp, .int .i64 cd', .string cl, .string tp, .string pl, .slice ab l.length cb, .slice ad cs.length cd] 57)).heap[w.heap.size]? = some (.cells #[.int .i64 k, .bool d, .bool r, .bool c, .bool s, .int .i64 q, .int .i64 i, .int .i64 kp, .int .i64 cd', .string cl, .string tp, .string pl, .slice aa l.length ca, .slice ac cs.length cc] 57) := by rw [Below.heap_alloc _ _ _ (by simp)]; exact Go.heap_alloc_new w _
    exact Lib.cell_of_heap h0 o
  have c2 : ∀ o, ((w.alloc (.cells #[.int .i64 k, .bool d, .bool r, .bool c, .bool s, .int .i64 q, .int .i64 i, .int .i64 kp, .int .i64 cd', .string cl, .string tp, .string pl, .slice aa l.length ca, .slice ac cs.length cc] 57)).alloc (.cells #[.int .i64 k, .bool d, .bool r, .bool c, .bool s, .int .i64 q, .int .i64 i, .int .i64 kp, .int .i64 cd', .string cl, .string tp, .string pl, .slice ab l.length cb, .slice ad cs.length cd] 57)).cell? ⟨w.heap.size + 1, o, none⟩ = (#[.int .i64 k, .bool d, .bool r, .bool c, .bool s, .int .i64 q, .int .i64 i, .int .i64 kp, .int .i64 cd', .string cl, .string tp, .string pl, .slice ab l.length cb, .slice ad cs.length cd] : Array Value)[o]? := fun o => by
    have h0 := Go.heap_alloc_new (w.alloc (.cells #[.int .i64 k, .bool d, .bool r, .bool c, .bool s, .int .i64 q, .int .i64 i, .int .i64 kp, .int .i64 cd', .string cl, .string tp, .string pl, .slice aa l.length ca, .slice ac cs.length cc] 57)) (.cells #[.int .i64 k, .bool d, .bool r, .bool c, .bool s, .int .i64 q, .int .i64 i, .int .i64 kp, .int .i64 cd', .string cl, .string tp, .string pl, .slice ab l.length cb, .slice ad cs.length cd] 57)
    simp only [World.size_alloc] at h0
    exact Lib.cell_of_heap h0 o
  revert hB c1 c2
  generalize (w.alloc (.cells #[.int .i64 k, .bool d, .bool r, .bool c, .bool s, .int .i64 q, .int .i64 i, .int .i64 kp, .int .i64 cd', .string cl, .string tp, .string pl, .slice aa l.length ca, .slice ac cs.length cc] 57)).alloc (.cells #[.int .i64 k, .bool d, .bool r, .bool c, .bool s, .int .i64 q, .int .i64 i, .int .i64 kp, .int .i64 cd', .string cl, .string tp, .string pl, .slice ab l.length cb, .slice ad cs.length cd] 57) = W2
  intro hB c1 c2
  have HB := hide hB
  have HA1 := hide (H1.out.1.below hB)
  have HA2 := hide (H2.out.1.below hB)
  have HC1 := hide (H1.out.2.below hB)
  have HC2 := hide (H2.out.2.below hB)
  clear hB H1 H2
  go_loopw [5] (fun x wr => ∃ n m : Nat, n ≤ l.length ∧ x = .int .i64 n ∧ wr = W2.drewN m) (fun x _ => l.length - (intOf x).toNat)
  case atStart => exact ⟨0, 0, by omega, rfl, rfl⟩
  case round =>
    obtain ⟨n, m, hn, rfl, rfl⟩ := hrel
    by_cases hlt : n < l.length
    · obtain ⟨b1, o1, rfl, y1⟩ : ∃ b o, aa = some ⟨b, o, none⟩ ∧ W2.cell? ⟨b, o + n * 2, none⟩ = some (.string l[n].1) ∧ W2.cell? ⟨b, o + n * 2 + 1, none⟩ = some (.int .i64 l[n].2) := by
        rcases HA1.out with h0 | ⟨b, o, g0, _, g1⟩
        · exact absurd hlt (by simp only at h0; rw [h0]; simp)
        · exact ⟨b, o, g0, g1 n hlt⟩
      obtain ⟨b2, o2, rfl, y2⟩ : ∃ b o, ab = some ⟨b, o, none⟩ ∧ W2.cell? ⟨b, o + n * 2, none⟩ = some (.string l[n].1) ∧ W2.cell? ⟨b, o + n * 2 + 1, none⟩ = some (.int .i64 l[n].2) := by
        rcases HA2.out with h0 | ⟨b, o, g0, _, g1⟩
        · exact absurd hlt (by simp only at h0; rw [h0]; simp)
        · exact ⟨b, o, g0, g1 n hlt⟩
      have hlt' : (n : Int) < l.length := by omega
      generalize l[n] = x at *
      obtain ⟨f, y⟩ := x
      simp only at y1 y2
      obtain ⟨y1, y1'⟩ := y1
      obtain ⟨y2, y2'⟩ := y2
      go_wp2_with fail
      go_quiet (fail)
      go_wp2
      go_round
      case rel => exact ⟨n + 1, _, by omega, by go_num, by first | rfl | (simp; rfl)⟩
      case measure => simp [intOf]; omega
    · have hge : (l.length : Int) ≤ n := by omega
      have HM : Hid (n ≤ n) := Nat.le_refl n
      clear hlt hn HM
      go_wp2_with fail
      go_loopw [6] (fun x wr => ∃ n m : Nat, n ≤ cs.length ∧ x = .int .i64 n ∧ wr = W2.drewN m) (fun x _ => cs.length - (intOf x).toNat)
      case atStart => exact ⟨0, m, by omega, rfl, rfl⟩
      case round =>
        obtain ⟨n', m', hn', rfl, rfl⟩ := hrel
        by_cases hlt : n' < cs.length
        · obtain ⟨b1, o1, rfl, y1⟩ : ∃ b o, ac = some ⟨b, o, none⟩ ∧ W2.cell? ⟨b, o + n', none⟩ = some (.int .i64 cs[n']) := by
            rcases HC1.out with h0 | ⟨b, o, g0, _, g1⟩
            · exact absurd hlt (by rw [h0]; simp)
            · exact ⟨b, o, g0, g1 n' hlt⟩
          obtain ⟨b2, o2, rfl, y2⟩ : ∃ b o, ad = some ⟨b, o, none⟩ ∧ W2.cell? ⟨b, o + n', none⟩ = some (.int .i64 cs[n']) := by
            rcases HC2.out with h0 | ⟨b, o, g0, _, g1⟩
            · exact absurd hlt (by rw [h0]; simp)
            · exact ⟨b, o, g0, g1 n' hlt⟩
          have hlt' : (n' : Int) < cs.length := by omega
          generalize cs[n'] = x at *
          go_wp2_with fail
          go_quiet (fail)
          go_wp2
          go_round
          case rel => exact ⟨n' + 1, _, by omega, by go_num, by first | rfl | (simp; rfl)⟩
          case measure => simp [intOf]; omega
        · have hge' : (cs.length : Int) ≤ n' := by omega
          go_wp2
          go_ret
          exact ⟨rfl, HB.out.trans ⟨rfl, rfl, rfl, Nat.le_refl _, fun _ _ => rfl⟩⟩
end Go.Proofs.YtnhcecgmcmcioaaDoor
