/-
  dragomanref.KeptAt; KeepList: the walk through the law, by the contracts of what it calls.
-/
import Derived.Test.YtcldjoklkbbbgadDoorKeepListMath
namespace Go.Proofs.YtcldjoklkbbbgadDoor
open Go.RowKit Go.PlainAid

set_option maxHeartbeats 1000000 in
theorem keptAt_any (l : List Kp) (n : ByteArray) (ao : Option Addr) (co : Nat) (w : World) (hl : KpsIn w ao l) (hn : l.length ≤ 1152921504606846976) :
    Calls Tryd.prog 11 #[.slice ao l.length co, .string n] w fun e w' => e = .returned (.int .i64 (atF n 0 l)) ∧ w' = w := by
  generalize hE : atF n 0 l = E
  have HE := hide hE
  have HL := hide hl
  clear hE hl
  go_enter Tryd.func11, Tryd.ntmps11
  go_wp2
  go_loop [5] (fun i => ∃ k : Nat, k ≤ l.length ∧ i = .int .i64 k ∧ Hid (atF n k (l.drop k) = E)) (fun i => l.length - (intOf i).toNat)
  case atStart => exact ⟨0, by omega, rfl, HE.out⟩
  case round =>
    obtain ⟨k, hk, rfl, HR⟩ := hrel
    by_cases hlt : k < l.length
    · obtain ⟨b, o, rfl, hb, hcell⟩ := kps_here HL.out hlt
      have hk1 := (hcell k hlt).1
      have HS : Hid (_ = E) := (atF_step n l k hlt).symm.trans HR.out
      clear hcell HL HE
      generalize l[k].topic = t at *
      have HT := hide (txt_eq t n)
      by_cases h : t = n
      · have h' : (t.toList == n.toList) = true := by rw [HT.out]; simp [h]
        have HQ : Hid (E = k) := by rw [← HS.out, if_pos h]; exact rfl
        clear h
        go_wp2
        go_ret
        exact ⟨by rw [HQ.out]; rfl, rfl⟩
      · have h' : (t.toList == n.toList) = false := by rw [HT.out]; simp [h]
        have HQ : Hid (atF n (k + 1) (l.drop (k + 1)) = E) := by rw [← HS.out, if_neg h]; exact rfl
        clear h
        go_wp2
        go_round
        case rel => exact ⟨k + 1, by omega, by go_num, HQ.out⟩
        case measure => simp [intOf]; omega
    · have hke : l.drop k = [] := List.drop_eq_nil_of_le (by omega)
      have HQ : Hid (E = -1) := by have := HR.out; rw [hke, atF] at this; exact this.symm
      clear hke
      go_wp2
      go_ret
      exact ⟨by rw [HQ.out]; rfl, rfl⟩

end Go.Proofs.YtcldjoklkbbbgadDoor
