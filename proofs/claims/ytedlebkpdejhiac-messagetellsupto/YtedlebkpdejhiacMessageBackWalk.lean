/-
  The walk of dragomanlaw.MessageBack: it answers true, whatever message and bytes it is handed.
-/
import Derived.Test.YtedlebkpdejhiacMsgSame
namespace Go.Proofs.Ytedlebkpdejhiac
open Go.RowKit Go.PlainAid

theorem encM_size {m : Mg} (h : chkM m = 0) : (encM m).size ≤ 100000 := by
  have hok := chkM_ok h
  have h1 := mnum_le4 (64 + m.kind * 16 + m.token.size) 1
  have h2 := mnum_le4 m.code 1
  have h3 := mnum_le4 m.id 2
  have h4 := optsS_le m.opts 0 (optsE_mem hok.2.2.2.2.2.2)
  have h5 : (paylS m.payload).size ≤ 204 := by
    unfold paylS
    split
    · exact Nat.zero_le _
    · have := mnum_le4 255 1
      rw [ByteArray.size_append]; omega
  simp only [encM, ByteArray.size_append]
  omega

set_option maxHeartbeats 8000000 in
set_option maxRecDepth 100000 in
theorem messageBack_walk (m : Mg) (ao : Option Addr) (co : Nat) (s : ByteArray) (w : World) (h1 : OptsIn w ao m.opts) (hs : s.size ≤ 140737488355328) :
    Calls Try.prog 5 #[mgV m ao co, .string s] w fun e w' => e = .returned (.bool true) ∧ Below w.heap.size w w' := by
  have CP : Hid (∀ W, OptsIn W ao m.opts → Calls Try.prog 7 #[mgV m ao co] W fun e w' => e = .returned (.tuple #[.string (encMS m), .int .i64 (chkM m)]) ∧ Below W.heap.size W w') := fun W b => mencode_any m ao co W b
  have CD : Hid (chkM m = 0 → ∀ W, Calls Try.prog 8 #[.string (encMS m)] W (NewMsg W m (.int .i64 0))) := fun h W => by
    have hz := encM_size h
    have := mdecode_any (encMS m) W (by rw [show encMS m = encM m from if_pos h]; omega)
    have hd := mdec_enc h
    rw [show encMS m = encM m from if_pos h] at this ⊢
    rwa [hd.1, hd.2] at this
  have CS : Hid (chkM m = 0 → ∀ W ab cb, OptsIn W ab m.opts → OptsIn W ao m.opts → Calls Try.prog 13 #[mgV m ab cb, mgV m ao co] W fun e w' => e = .returned (.bool true) ∧ Below W.heap.size W w') := fun h W ab cb a b => by
    have := chkM_ok h
    exact msame_yes m ab ao cb co W a b (by omega)
  obtain ⟨q, hq⟩ : ∃ q, q = decM s := ⟨_, rfl⟩
  obtain ⟨E, hE⟩ : ∃ E, E = decME s := ⟨_, rfl⟩
  have CT : Hid (∀ W, Calls Try.prog 8 #[.string s] W (NewMsg W q (.int .i64 E))) := fun W => by
    rw [hq, hE]; exact mdecode_any s W hs
  have CE : Hid (E = 0 → ∀ W ab cb, OptsIn W ab q.opts → Calls Try.prog 7 #[mgV q ab cb] W fun e w' => e = .returned (.tuple #[.string s, .int .i64 0]) ∧ Below W.heap.size W w') := fun h W ab cb b => by
    have hd := menc_dec (s := s) (by rw [← hE]; exact h)
    rw [← hq] at hd
    have := mencode_any q ab cb W b
    rwa [show encMS q = encM q from if_pos hd.1, hd.1, hd.2] at this
  have HK : Hid (E ≠ 0 → q.token = ⟨#[]⟩ ∧ q.payload = ⟨#[]⟩) := fun h => by rw [hq]; show (decM s).token = _ ∧ (decM s).payload = _; unfold decM; rw [if_neg (by rw [← hE]; exact h)]; exact ⟨rfl, rfl⟩
  clear hq hE hs
  have hbw : Below w.heap.size w (w.alloc (.cells #[.int .i64 m.kind, .int .i64 m.code, .int .i64 m.id, .string m.token, .slice ao m.opts.length co, .string m.payload] 24)) := (Below.refl _ _).alloc (Nat.le_refl _) _
  have d1 : ∀ o, (w.alloc (.cells #[.int .i64 m.kind, .int .i64 m.code, .int .i64 m.id, .string m.token, .slice ao m.opts.length co, .string m.payload] 24)).cell? ⟨w.heap.size, o, none⟩ = (#[.int .i64 m.kind, .int .i64 m.code, .int .i64 m.id, .string m.token, .slice ao m.opts.length co, .string m.payload] : Array Value)[o]? := fun o => Lib.cell_of_heap (Go.heap_alloc_new w _) o
  have hsz : (w.alloc (.cells #[.int .i64 m.kind, .int .i64 m.code, .int .i64 m.id, .string m.token, .slice ao m.opts.length co, .string m.payload] 24)).heap.size = w.heap.size + 1 := by simp
  have H1 := hide h1
  clear h1
  simp only [mgV] at CP CS CE ⊢
  go_enter Try.func5, Try.ntmps5
  go_upto_region 1 with fail
  revert hbw d1 hsz
  generalize w.alloc (.cells #[.int .i64 m.kind, .int .i64 m.code, .int .i64 m.id, .string m.token, .slice ao m.opts.length co, .string m.payload] 24) = W0
  intro hbw d1 hsz
  have HB0 := hide hbw
  clear hbw
  go_wp2_with fail
  refine (messageBegun_yes _).mono ?_
  rintro e w1 ⟨rfl, hb1⟩
  have e1 : ∀ o, w1.cell? ⟨w.heap.size, o, none⟩ = (#[.int .i64 m.kind, .int .i64 m.code, .int .i64 m.id, .string m.token, .slice ao m.opts.length co, .string m.payload] : Array Value)[o]? := fun o => (hb1.cell (p := ⟨w.heap.size, o, none⟩) (by show w.heap.size < _; omega)).trans (d1 o)
  have HB1 := hide (below_step HB0.out hb1)
  have hs1 := hb1.size
  clear hb1 d1
  go_wp2_with fail
  refine (CP.out _ (H1.out.below HB1.out)).mono ?_
  rintro e w2 ⟨rfl, hb2⟩
  have f1 : ∀ o, w2.cell? ⟨w.heap.size, o, none⟩ = (#[.int .i64 m.kind, .int .i64 m.code, .int .i64 m.id, .string m.token, .slice ao m.opts.length co, .string m.payload] : Array Value)[o]? := fun o => (hb2.cell (p := ⟨w.heap.size, o, none⟩) (by show w.heap.size < _; omega)).trans (e1 o)
  have HB2 := hide (below_step HB1.out hb2)
  have hs2 := hb2.size
  clear hb2 e1
  by_cases k1 : chkM m = 0
  · have k1' : (chkM m == 0) = true := by simp [k1]
    have CD' := hide (CD.out k1)
    have CS' := hide (CS.out k1)
    clear CD CS CP k1
    revert CD'
    generalize encMS m = S
    intro CD'
    go_wp2_with fail
    refine (CD'.out _).mono ?_
    rintro e w3 ⟨ab, cb, rfl, hin3, _, hb3⟩
    simp only [mgV]
    have g1 : ∀ o, w3.cell? ⟨w.heap.size, o, none⟩ = (#[.int .i64 m.kind, .int .i64 m.code, .int .i64 m.id, .string m.token, .slice ao m.opts.length co, .string m.payload] : Array Value)[o]? := fun o => (hb3.cell (p := ⟨w.heap.size, o, none⟩) (by show w.heap.size < _; omega)).trans (f1 o)
    have HB3 := hide (below_step HB2.out hb3)
    have hs3 := hb3.size
    have HI3 := hide hin3
    clear hb3 f1 hin3
    have hbx : Below w3.heap.size w3 (w3.alloc (.cells #[.int .i64 m.kind, .int .i64 m.code, .int .i64 m.id, .string m.token, .slice ab m.opts.length cb, .string m.payload] 24)) := (Below.refl _ _).alloc (Nat.le_refl _) _
    have x1 : ∀ o, (w3.alloc (.cells #[.int .i64 m.kind, .int .i64 m.code, .int .i64 m.id, .string m.token, .slice ab m.opts.length cb, .string m.payload] 24)).cell? ⟨w3.heap.size, o, none⟩ = (#[.int .i64 m.kind, .int .i64 m.code, .int .i64 m.id, .string m.token, .slice ab m.opts.length cb, .string m.payload] : Array Value)[o]? := fun o => Lib.cell_of_heap (Go.heap_alloc_new w3 _) o
    go_upto_region 6 with fail
    revert hbx x1
    generalize w3.alloc (.cells #[.int .i64 m.kind, .int .i64 m.code, .int .i64 m.id, .string m.token, .slice ab m.opts.length cb, .string m.payload] 24) = W4
    intro hbx x1
    have x2 : ∀ o, W4.cell? ⟨w.heap.size, o, none⟩ = (#[.int .i64 m.kind, .int .i64 m.code, .int .i64 m.id, .string m.token, .slice ao m.opts.length co, .string m.payload] : Array Value)[o]? := fun o => (hbx.cell (p := ⟨w.heap.size, o, none⟩) (by show w.heap.size < _; omega)).trans (g1 o)
    have HB4 := hide (below_step HB3.out hbx)
    have HI4 := hide (HI3.out.below hbx)
    clear hbx g1
    go_wp2_with fail
    refine (CS'.out _ ab cb HI4.out (H1.out.below HB4.out)).mono ?_
    rintro e w5 ⟨rfl, hb5⟩
    have HB5 := hide (below_step HB4.out hb5)
    clear hb5 x1 x2 CS' CD' HB0 HB1 HB2 HB3 HB4 HI3 HI4 hs1 hs2 hs3 hsz
    go_wp2_with fail
    refine (CT.out _).mono ?_
    rintro e w6 ⟨ae, ce, rfl, hin6, _, hb6⟩
    simp only [mgV]
    have HB6 := hide (below_step HB5.out hb6)
    have HI6 := hide hin6
    clear hb6 hin6 HB5
    have hbx : Below w6.heap.size w6 (w6.alloc (.cells #[.int .i64 q.kind, .int .i64 q.code, .int .i64 q.id, .string q.token, .slice ae q.opts.length ce, .string q.payload] 24)) := (Below.refl _ _).alloc (Nat.le_refl _) _
    have x1 : ∀ o, (w6.alloc (.cells #[.int .i64 q.kind, .int .i64 q.code, .int .i64 q.id, .string q.token, .slice ae q.opts.length ce, .string q.payload] 24)).cell? ⟨w6.heap.size, o, none⟩ = (#[.int .i64 q.kind, .int .i64 q.code, .int .i64 q.id, .string q.token, .slice ae q.opts.length ce, .string q.payload] : Array Value)[o]? := fun o => Lib.cell_of_heap (Go.heap_alloc_new w6 _) o
    go_upto_region 9 with fail
    revert hbx x1
    generalize w6.alloc (.cells #[.int .i64 q.kind, .int .i64 q.code, .int .i64 q.id, .string q.token, .slice ae q.opts.length ce, .string q.payload] 24) = W7
    intro hbx x1
    have HB7 := hide (below_step HB6.out hbx)
    have HI7 := hide (HI6.out.below hbx)
    clear hbx HB6 HI6
    by_cases k2 : E = 0
    · have k2' : (E != 0) = false := by simp [k2]
      have CE' := hide (CE.out k2)
      clear k2 CE HK
      go_wp2_with fail
      refine (CE'.out _ ae ce HI7.out).mono ?_
      rintro e w8 ⟨rfl, hb8⟩
      have HB8 := hide (below_step HB7.out hb8)
      clear hb8
      go_wp2
      go_ret
      exact ⟨by simp, HB8.out⟩
    · have k2' : (E != 0) = true := by simp [k2]
      have hk0 := HK.out k2
      have hk1 : (q.token.toList == []) = true := txt_yes (l := []) hk0.1
      have hk2 : (q.payload.toList == []) = true := txt_yes (l := []) hk0.2
      clear k2 CE HK hk0
      go_wp2
      go_ret
      exact ⟨rfl, HB7.out⟩
  · have k1' : (chkM m == 0) = false := by simp [k1]
    have HB5 := HB2
    clear CD CS CP k1 HB0 HB1 HB2 hs1 hs2 hsz f1
    go_wp2_with fail
    refine (CT.out _).mono ?_
    rintro e w6 ⟨ae, ce, rfl, hin6, _, hb6⟩
    simp only [mgV]
    have HB6 := hide (below_step HB5.out hb6)
    have HI6 := hide hin6
    clear hb6 hin6 HB5
    have hbx : Below w6.heap.size w6 (w6.alloc (.cells #[.int .i64 q.kind, .int .i64 q.code, .int .i64 q.id, .string q.token, .slice ae q.opts.length ce, .string q.payload] 24)) := (Below.refl _ _).alloc (Nat.le_refl _) _
    have x1 : ∀ o, (w6.alloc (.cells #[.int .i64 q.kind, .int .i64 q.code, .int .i64 q.id, .string q.token, .slice ae q.opts.length ce, .string q.payload] 24)).cell? ⟨w6.heap.size, o, none⟩ = (#[.int .i64 q.kind, .int .i64 q.code, .int .i64 q.id, .string q.token, .slice ae q.opts.length ce, .string q.payload] : Array Value)[o]? := fun o => Lib.cell_of_heap (Go.heap_alloc_new w6 _) o
    go_upto_region 9 with fail
    revert hbx x1
    generalize w6.alloc (.cells #[.int .i64 q.kind, .int .i64 q.code, .int .i64 q.id, .string q.token, .slice ae q.opts.length ce, .string q.payload] 24) = W7
    intro hbx x1
    have HB7 := hide (below_step HB6.out hbx)
    have HI7 := hide (HI6.out.below hbx)
    clear hbx HB6 HI6
    by_cases k2 : E = 0
    · have k2' : (E != 0) = false := by simp [k2]
      have CE' := hide (CE.out k2)
      clear k2 CE HK
      go_wp2_with fail
      refine (CE'.out _ ae ce HI7.out).mono ?_
      rintro e w8 ⟨rfl, hb8⟩
      have HB8 := hide (below_step HB7.out hb8)
      clear hb8
      go_wp2
      go_ret
      exact ⟨by simp, HB8.out⟩
    · have k2' : (E != 0) = true := by simp [k2]
      have hk0 := HK.out k2
      have hk1 : (q.token.toList == []) = true := txt_yes (l := []) hk0.1
      have hk2 : (q.payload.toList == []) = true := txt_yes (l := []) hk0.2
      clear k2 CE HK hk0
      go_wp2
      go_ret
      exact ⟨rfl, HB7.out⟩

theorem messageBack_lift {w : World} (m : Mg) (ao : Option Addr) (co : Nat) (h1 : OptsIn w ao m.opts) (s : ByteArray) (hs : s.size ≤ 140737488355328) :
    Calls Try.prog 5 #[mgV m ao co, .string s] w fun e w' => e = .returned (.bool true) ∧ Below w.heap.size w w' := messageBack_walk m ao co s w h1 hs
end Go.Proofs.Ytedlebkpdejhiac
