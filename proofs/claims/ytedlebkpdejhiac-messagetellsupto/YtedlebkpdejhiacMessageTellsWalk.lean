/-
  The walk of dragomanlaw.MessageTells: it answers true (bytes of no great size).
-/
import Derived.Test.YtedlebkpdejhiacRefBytes
import Derived.Test.YtedlebkpdejhiacRefCheck
import Derived.Test.YtedlebkpdejhiacMessageBackWalk
namespace Go.Proofs.Ytedlebkpdejhiac
open Go.RowKit Go.PlainAid

set_option maxHeartbeats 8000000 in
set_option maxRecDepth 100000 in
theorem messageTells_walk (m : Mg) (ao : Option Addr) (co : Nat) (s : ByteArray) (w : World) (h1 : OptsIn w ao m.opts) (hs : s.size ≤ 1048576)
    (hof : ∀ W, Calls Try.prog 11 #[.string s] W (NewMsg W (decM s) (.int .i64 (decME s)))) :
    Calls Try.prog 4 #[mgV m ao co, .string s] w fun e w' => e = .returned (.bool true) ∧ Below w.heap.size w w' := by
  have CP : Hid (∀ W, OptsIn W ao m.opts → Calls Try.prog 7 #[mgV m ao co] W fun e w' => e = .returned (.tuple #[.string (encMS m), .int .i64 (chkM m)]) ∧ Below W.heap.size W w') := fun W b => mencode_any m ao co W b
  have CR : Hid (∀ W, OptsIn W ao m.opts → Calls Try.prog 9 #[mgV m ao co] W fun e w' => e = .returned (.int .i64 (chkM m)) ∧ Below W.heap.size W w') := fun W b => rcheck_any m ao co W b
  have CK : Hid (∀ W, OptsIn W ao m.opts → Calls Try.prog 12 #[mgV m ao co] W fun e w' => e = .returned (.int .i64 (chkM m)) ∧ Below W.heap.size W w') := fun W b => mcheck_any m ao co W b
  have CB : Hid (chkM m = 0 → ∀ W, OptsIn W ao m.opts → Calls Try.prog 10 #[mgV m ao co] W fun e w' => e = .returned (.string (encMS m)) ∧ Below W.heap.size W w') := fun h W b => by
    rw [show encMS m = encM m from if_pos h]; exact bytes_any m ao co W b h
  have HE0 : Hid (chkM m ≠ 0 → encMS m = ⟨#[]⟩) := fun h => if_neg h
  have HQL : (decM s).opts.length ≤ 13 := by
    by_cases h : decME s = 0
    · have := chkM_ok (menc_dec h).1; omega
    · unfold decM; rw [if_neg h]; exact Nat.zero_le _
  have CT : Hid (∀ W, Calls Try.prog 8 #[.string s] W (NewMsg W (decM s) (.int .i64 (decME s)))) := fun W => mdecode_any s W (by omega)
  have CO := hide hof
  clear hof hs
  generalize decM s = q at *
  generalize decME s = E at *
  have CS : Hid (∀ W ab af cb cf, OptsIn W ab q.opts → OptsIn W af q.opts → Calls Try.prog 13 #[mgV q ab cb, mgV q af cf] W fun e w' => e = .returned (.bool true) ∧ Below W.heap.size W w') := fun W ab af cb cf a b => msame_yes q ab af cb cf W a b HQL
  clear HQL
  generalize encMS m = S at *
  generalize chkM m = C at *
  have hbw : Below w.heap.size w (w.alloc (.cells #[.int .i64 m.kind, .int .i64 m.code, .int .i64 m.id, .string m.token, .slice ao m.opts.length co, .string m.payload] 24)) := (Below.refl _ _).alloc (Nat.le_refl _) _
  have d1 : ∀ o, (w.alloc (.cells #[.int .i64 m.kind, .int .i64 m.code, .int .i64 m.id, .string m.token, .slice ao m.opts.length co, .string m.payload] 24)).cell? ⟨w.heap.size, o, none⟩ = (#[.int .i64 m.kind, .int .i64 m.code, .int .i64 m.id, .string m.token, .slice ao m.opts.length co, .string m.payload] : Array Value)[o]? := fun o => Lib.cell_of_heap (Go.heap_alloc_new w _) o
  have hsz : (w.alloc (.cells #[.int .i64 m.kind, .int .i64 m.code, .int .i64 m.id, .string m.token, .slice ao m.opts.length co, .string m.payload] 24)).heap.size = w.heap.size + 1 := by simp
  have H1 := hide h1
  clear h1
  simp only [mgV] at CP CR CK CB CS ⊢
  go_enter Try.func4, Try.ntmps4
  go_upto_region 1 with fail
  revert hbw d1 hsz
  generalize w.alloc (.cells #[.int .i64 m.kind, .int .i64 m.code, .int .i64 m.id, .string m.token, .slice ao m.opts.length co, .string m.payload] 24) = W0
  intro hbw d1 hsz
  have HB0 := hide hbw
  clear hbw
  go_wp2_with fail
  refine (CP.out _ (H1.out.below HB0.out)).mono ?_
  rintro e w1 ⟨rfl, hb⟩
  have e1 : ∀ o, w1.cell? ⟨w.heap.size, o, none⟩ = (#[.int .i64 m.kind, .int .i64 m.code, .int .i64 m.id, .string m.token, .slice ao m.opts.length co, .string m.payload] : Array Value)[o]? := fun o => (hb.cell (p := ⟨w.heap.size, o, none⟩) (by show w.heap.size < _; omega)).trans (d1 o)
  have HB1 := hide (below_step HB0.out hb)
  have hs1 := hb.size
  clear hb d1
  go_wp2_with fail
  refine (CT.out _).mono ?_
  rintro e w2 ⟨ab, cb, rfl, hin, _, hb⟩
  simp only [mgV]
  have f1 : ∀ o, w2.cell? ⟨w.heap.size, o, none⟩ = (#[.int .i64 m.kind, .int .i64 m.code, .int .i64 m.id, .string m.token, .slice ao m.opts.length co, .string m.payload] : Array Value)[o]? := fun o => (hb.cell (p := ⟨w.heap.size, o, none⟩) (by show w.heap.size < _; omega)).trans (e1 o)
  have HB2 := hide (below_step HB1.out hb)
  have HI2 := hide hin
  have hs2 := hb.size
  clear hb e1 hin
  have hbx : Below w2.heap.size w2 (w2.alloc (.cells #[.int .i64 q.kind, .int .i64 q.code, .int .i64 q.id, .string q.token, .slice ab q.opts.length cb, .string q.payload] 24)) := (Below.refl _ _).alloc (Nat.le_refl _) _
  have x1 : ∀ o, (w2.alloc (.cells #[.int .i64 q.kind, .int .i64 q.code, .int .i64 q.id, .string q.token, .slice ab q.opts.length cb, .string q.payload] 24)).cell? ⟨w2.heap.size, o, none⟩ = (#[.int .i64 q.kind, .int .i64 q.code, .int .i64 q.id, .string q.token, .slice ab q.opts.length cb, .string q.payload] : Array Value)[o]? := fun o => Lib.cell_of_heap (Go.heap_alloc_new w2 _) o
  have hzz : (w2.alloc (.cells #[.int .i64 q.kind, .int .i64 q.code, .int .i64 q.id, .string q.token, .slice ab q.opts.length cb, .string q.payload] 24)).heap.size = w2.heap.size + 1 := by simp
  go_upto_region 3 with fail
  revert hbx x1 hzz
  generalize w2.alloc (.cells #[.int .i64 q.kind, .int .i64 q.code, .int .i64 q.id, .string q.token, .slice ab q.opts.length cb, .string q.payload] 24) = W3
  intro hbx x1 hzz
  have g1 : ∀ o, W3.cell? ⟨w.heap.size, o, none⟩ = (#[.int .i64 m.kind, .int .i64 m.code, .int .i64 m.id, .string m.token, .slice ao m.opts.length co, .string m.payload] : Array Value)[o]? := fun o => (hbx.cell (p := ⟨w.heap.size, o, none⟩) (by show w.heap.size < _; omega)).trans (f1 o)
  have HB3 := hide (below_step HB2.out hbx)
  have HI3 := hide (HI2.out.below hbx)
  clear hbx f1
  go_wp2_with fail
  refine (CR.out _ (H1.out.below HB3.out)).mono ?_
  rintro e w4 ⟨rfl, hb⟩
  have j1 : ∀ o, w4.cell? ⟨w.heap.size, o, none⟩ = (#[.int .i64 m.kind, .int .i64 m.code, .int .i64 m.id, .string m.token, .slice ao m.opts.length co, .string m.payload] : Array Value)[o]? := fun o => (hb.cell (p := ⟨w.heap.size, o, none⟩) (by show w.heap.size < _; omega)).trans (g1 o)
  have j2 : ∀ o, w4.cell? ⟨w2.heap.size, o, none⟩ = (#[.int .i64 q.kind, .int .i64 q.code, .int .i64 q.id, .string q.token, .slice ab q.opts.length cb, .string q.payload] : Array Value)[o]? := fun o => (hb.cell (p := ⟨w2.heap.size, o, none⟩) (by show w2.heap.size < _; omega)).trans (x1 o)
  have HB4 := hide (below_step HB3.out hb)
  have HI4 := hide (HI3.out.below hb)
  have hs4 := hb.size
  clear hb g1 x1 HB3 HI3 HB0 HB1 HB2 HI2 CP CT CR
  by_cases kc : C = 0
  · have CB' := hide (CB.out kc)
    have kc' : (C == 0) = true := by simp [kc]
    clear CB kc HE0
    go_wp2_with fail
    refine (CB'.out _ (H1.out.below HB4.out)).mono ?_
    rintro e w5 ⟨rfl, hb⟩
    have k1 : ∀ o, w5.cell? ⟨w.heap.size, o, none⟩ = (#[.int .i64 m.kind, .int .i64 m.code, .int .i64 m.id, .string m.token, .slice ao m.opts.length co, .string m.payload] : Array Value)[o]? := fun o => (hb.cell (p := ⟨w.heap.size, o, none⟩) (by show w.heap.size < _; omega)).trans (j1 o)
    have k2 : ∀ o, w5.cell? ⟨w2.heap.size, o, none⟩ = (#[.int .i64 q.kind, .int .i64 q.code, .int .i64 q.id, .string q.token, .slice ab q.opts.length cb, .string q.payload] : Array Value)[o]? := fun o => (hb.cell (p := ⟨w2.heap.size, o, none⟩) (by show w2.heap.size < _; omega)).trans (j2 o)
    have HB5 := hide (below_step HB4.out hb)
    have HI5 := hide (HI4.out.below hb)
    have hs5 := hb.size
    clear hb j1 j2 CB' HB4 HI4
    go_wp2_with fail
    refine (CO.out _).mono ?_
    rintro e v1 ⟨af, cf, rfl, hin, _, hb⟩
    simp only [mgV]
    have r1 : ∀ o, v1.cell? ⟨w.heap.size, o, none⟩ = (#[.int .i64 m.kind, .int .i64 m.code, .int .i64 m.id, .string m.token, .slice ao m.opts.length co, .string m.payload] : Array Value)[o]? := fun o => (hb.cell (p := ⟨w.heap.size, o, none⟩) (by show w.heap.size < _; omega)).trans (k1 o)
    have r2 : ∀ o, v1.cell? ⟨w2.heap.size, o, none⟩ = (#[.int .i64 q.kind, .int .i64 q.code, .int .i64 q.id, .string q.token, .slice ab q.opts.length cb, .string q.payload] : Array Value)[o]? := fun o => (hb.cell (p := ⟨w2.heap.size, o, none⟩) (by show w2.heap.size < _; omega)).trans (k2 o)
    have HV1 := hide (below_step HB5.out hb)
    have HX1 := hide (HI5.out.below hb)
    have HY1 := hide hin
    have hv1 := hb.size
    clear hb hin k1 k2
    have hbx : Below v1.heap.size v1 (v1.alloc (.cells #[.int .i64 q.kind, .int .i64 q.code, .int .i64 q.id, .string q.token, .slice af q.opts.length cf, .string q.payload] 24)) := (Below.refl _ _).alloc (Nat.le_refl _) _
    have x1 : ∀ o, (v1.alloc (.cells #[.int .i64 q.kind, .int .i64 q.code, .int .i64 q.id, .string q.token, .slice af q.opts.length cf, .string q.payload] 24)).cell? ⟨v1.heap.size, o, none⟩ = (#[.int .i64 q.kind, .int .i64 q.code, .int .i64 q.id, .string q.token, .slice af q.opts.length cf, .string q.payload] : Array Value)[o]? := fun o => Lib.cell_of_heap (Go.heap_alloc_new v1 _) o
    have hz1 : (v1.alloc (.cells #[.int .i64 q.kind, .int .i64 q.code, .int .i64 q.id, .string q.token, .slice af q.opts.length cf, .string q.payload] 24)).heap.size = v1.heap.size + 1 := by simp
    go_upto_region 7 with fail
    revert hbx x1 hz1
    generalize v1.alloc (.cells #[.int .i64 q.kind, .int .i64 q.code, .int .i64 q.id, .string q.token, .slice af q.opts.length cf, .string q.payload] 24) = V2
    intro hbx x1 hz1
    have s1 : ∀ o, V2.cell? ⟨w.heap.size, o, none⟩ = (#[.int .i64 m.kind, .int .i64 m.code, .int .i64 m.id, .string m.token, .slice ao m.opts.length co, .string m.payload] : Array Value)[o]? := fun o => (hbx.cell (p := ⟨w.heap.size, o, none⟩) (by show w.heap.size < _; omega)).trans (r1 o)
    have s2 : ∀ o, V2.cell? ⟨w2.heap.size, o, none⟩ = (#[.int .i64 q.kind, .int .i64 q.code, .int .i64 q.id, .string q.token, .slice ab q.opts.length cb, .string q.payload] : Array Value)[o]? := fun o => (hbx.cell (p := ⟨w2.heap.size, o, none⟩) (by show w2.heap.size < _; omega)).trans (r2 o)
    have HV2 := hide (below_step HV1.out hbx)
    have HX2 := hide (HX1.out.below hbx)
    have HY2 := hide (HY1.out.below hbx)
    clear hbx r1 r2 HV1 HX1 HY1
    go_wp2_with fail
    refine (messageBegun_yes _).mono ?_
    rintro e v3 ⟨rfl, hb⟩
    have t1 : ∀ o, v3.cell? ⟨w.heap.size, o, none⟩ = (#[.int .i64 m.kind, .int .i64 m.code, .int .i64 m.id, .string m.token, .slice ao m.opts.length co, .string m.payload] : Array Value)[o]? := fun o => (hb.cell (p := ⟨w.heap.size, o, none⟩) (by show w.heap.size < _; omega)).trans (s1 o)
    have t2 : ∀ o, v3.cell? ⟨w2.heap.size, o, none⟩ = (#[.int .i64 q.kind, .int .i64 q.code, .int .i64 q.id, .string q.token, .slice ab q.opts.length cb, .string q.payload] : Array Value)[o]? := fun o => (hb.cell (p := ⟨w2.heap.size, o, none⟩) (by show w2.heap.size < _; omega)).trans (s2 o)
    have t3 : ∀ o, v3.cell? ⟨v1.heap.size, o, none⟩ = (#[.int .i64 q.kind, .int .i64 q.code, .int .i64 q.id, .string q.token, .slice af q.opts.length cf, .string q.payload] : Array Value)[o]? := fun o => (hb.cell (p := ⟨v1.heap.size, o, none⟩) (by show v1.heap.size < _; omega)).trans (x1 o)
    have HV3 := hide (below_step HV2.out hb)
    have HX3 := hide (HX2.out.below hb)
    have HY3 := hide (HY2.out.below hb)
    have hv3 := hb.size
    clear hb s1 s2 x1 HV2 HX2 HY2
    go_wp2_with fail
    refine (CK.out _ (H1.out.below HV3.out)).mono ?_
    rintro e v4 ⟨rfl, hb⟩
    have y2 : ∀ o, v4.cell? ⟨w2.heap.size, o, none⟩ = (#[.int .i64 q.kind, .int .i64 q.code, .int .i64 q.id, .string q.token, .slice ab q.opts.length cb, .string q.payload] : Array Value)[o]? := fun o => (hb.cell (p := ⟨w2.heap.size, o, none⟩) (by show w2.heap.size < _; omega)).trans (t2 o)
    have y3 : ∀ o, v4.cell? ⟨v1.heap.size, o, none⟩ = (#[.int .i64 q.kind, .int .i64 q.code, .int .i64 q.id, .string q.token, .slice af q.opts.length cf, .string q.payload] : Array Value)[o]? := fun o => (hb.cell (p := ⟨v1.heap.size, o, none⟩) (by show v1.heap.size < _; omega)).trans (t3 o)
    have HV4 := hide (below_step HV3.out hb)
    have HX4 := hide (HX3.out.below hb)
    have HY4 := hide (HY3.out.below hb)
    clear hb t1 t2 t3 HV3 HX3 HY3
    go_wp2_with fail
    refine (CS.out _ ab af cb cf HX4.out HY4.out).mono ?_
    rintro e v5 ⟨rfl, hb⟩
    have HV5 := hide (below_step HV4.out hb)
    clear hb y2 y3 HV4 HX4 HY4
    go_wp2
    exact bodyPost_ret (v := .bool true) (by simp [results, Try.results4, go_sem]) rfl ⟨rfl, HV5.out⟩
  · have kc' : (C == 0) = false := by simp [kc]
    have hS := HE0.out kc
    subst hS
    clear CB kc HE0
    go_wp2_with fail
    refine (CO.out _).mono ?_
    rintro e v1 ⟨af, cf, rfl, hin, _, hb⟩
    simp only [mgV]
    have r1 : ∀ o, v1.cell? ⟨w.heap.size, o, none⟩ = (#[.int .i64 m.kind, .int .i64 m.code, .int .i64 m.id, .string m.token, .slice ao m.opts.length co, .string m.payload] : Array Value)[o]? := fun o => (hb.cell (p := ⟨w.heap.size, o, none⟩) (by show w.heap.size < _; omega)).trans (j1 o)
    have r2 : ∀ o, v1.cell? ⟨w2.heap.size, o, none⟩ = (#[.int .i64 q.kind, .int .i64 q.code, .int .i64 q.id, .string q.token, .slice ab q.opts.length cb, .string q.payload] : Array Value)[o]? := fun o => (hb.cell (p := ⟨w2.heap.size, o, none⟩) (by show w2.heap.size < _; omega)).trans (j2 o)
    have HV1 := hide (below_step HB4.out hb)
    have HX1 := hide (HI4.out.below hb)
    have HY1 := hide hin
    have hv1 := hb.size
    clear hb hin j1 j2
    have hbx : Below v1.heap.size v1 (v1.alloc (.cells #[.int .i64 q.kind, .int .i64 q.code, .int .i64 q.id, .string q.token, .slice af q.opts.length cf, .string q.payload] 24)) := (Below.refl _ _).alloc (Nat.le_refl _) _
    have x1 : ∀ o, (v1.alloc (.cells #[.int .i64 q.kind, .int .i64 q.code, .int .i64 q.id, .string q.token, .slice af q.opts.length cf, .string q.payload] 24)).cell? ⟨v1.heap.size, o, none⟩ = (#[.int .i64 q.kind, .int .i64 q.code, .int .i64 q.id, .string q.token, .slice af q.opts.length cf, .string q.payload] : Array Value)[o]? := fun o => Lib.cell_of_heap (Go.heap_alloc_new v1 _) o
    have hz1 : (v1.alloc (.cells #[.int .i64 q.kind, .int .i64 q.code, .int .i64 q.id, .string q.token, .slice af q.opts.length cf, .string q.payload] 24)).heap.size = v1.heap.size + 1 := by simp
    go_upto_region 7 with fail
    revert hbx x1 hz1
    generalize v1.alloc (.cells #[.int .i64 q.kind, .int .i64 q.code, .int .i64 q.id, .string q.token, .slice af q.opts.length cf, .string q.payload] 24) = V2
    intro hbx x1 hz1
    have s1 : ∀ o, V2.cell? ⟨w.heap.size, o, none⟩ = (#[.int .i64 m.kind, .int .i64 m.code, .int .i64 m.id, .string m.token, .slice ao m.opts.length co, .string m.payload] : Array Value)[o]? := fun o => (hbx.cell (p := ⟨w.heap.size, o, none⟩) (by show w.heap.size < _; omega)).trans (r1 o)
    have s2 : ∀ o, V2.cell? ⟨w2.heap.size, o, none⟩ = (#[.int .i64 q.kind, .int .i64 q.code, .int .i64 q.id, .string q.token, .slice ab q.opts.length cb, .string q.payload] : Array Value)[o]? := fun o => (hbx.cell (p := ⟨w2.heap.size, o, none⟩) (by show w2.heap.size < _; omega)).trans (r2 o)
    have HV2 := hide (below_step HV1.out hbx)
    have HX2 := hide (HX1.out.below hbx)
    have HY2 := hide (HY1.out.below hbx)
    clear hbx r1 r2 HV1 HX1 HY1
    go_wp2_with fail
    refine (messageBegun_yes _).mono ?_
    rintro e v3 ⟨rfl, hb⟩
    have t1 : ∀ o, v3.cell? ⟨w.heap.size, o, none⟩ = (#[.int .i64 m.kind, .int .i64 m.code, .int .i64 m.id, .string m.token, .slice ao m.opts.length co, .string m.payload] : Array Value)[o]? := fun o => (hb.cell (p := ⟨w.heap.size, o, none⟩) (by show w.heap.size < _; omega)).trans (s1 o)
    have t2 : ∀ o, v3.cell? ⟨w2.heap.size, o, none⟩ = (#[.int .i64 q.kind, .int .i64 q.code, .int .i64 q.id, .string q.token, .slice ab q.opts.length cb, .string q.payload] : Array Value)[o]? := fun o => (hb.cell (p := ⟨w2.heap.size, o, none⟩) (by show w2.heap.size < _; omega)).trans (s2 o)
    have t3 : ∀ o, v3.cell? ⟨v1.heap.size, o, none⟩ = (#[.int .i64 q.kind, .int .i64 q.code, .int .i64 q.id, .string q.token, .slice af q.opts.length cf, .string q.payload] : Array Value)[o]? := fun o => (hb.cell (p := ⟨v1.heap.size, o, none⟩) (by show v1.heap.size < _; omega)).trans (x1 o)
    have HV3 := hide (below_step HV2.out hb)
    have HX3 := hide (HX2.out.below hb)
    have HY3 := hide (HY2.out.below hb)
    have hv3 := hb.size
    clear hb s1 s2 x1 HV2 HX2 HY2
    go_wp2_with fail
    refine (CK.out _ (H1.out.below HV3.out)).mono ?_
    rintro e v4 ⟨rfl, hb⟩
    have y2 : ∀ o, v4.cell? ⟨w2.heap.size, o, none⟩ = (#[.int .i64 q.kind, .int .i64 q.code, .int .i64 q.id, .string q.token, .slice ab q.opts.length cb, .string q.payload] : Array Value)[o]? := fun o => (hb.cell (p := ⟨w2.heap.size, o, none⟩) (by show w2.heap.size < _; omega)).trans (t2 o)
    have y3 : ∀ o, v4.cell? ⟨v1.heap.size, o, none⟩ = (#[.int .i64 q.kind, .int .i64 q.code, .int .i64 q.id, .string q.token, .slice af q.opts.length cf, .string q.payload] : Array Value)[o]? := fun o => (hb.cell (p := ⟨v1.heap.size, o, none⟩) (by show v1.heap.size < _; omega)).trans (t3 o)
    have HV4 := hide (below_step HV3.out hb)
    have HX4 := hide (HX3.out.below hb)
    have HY4 := hide (HY3.out.below hb)
    clear hb t1 t2 t3 HV3 HX3 HY3
    go_wp2_with fail
    refine (CS.out _ ab af cb cf HX4.out HY4.out).mono ?_
    rintro e v5 ⟨rfl, hb⟩
    have HV5 := hide (below_step HV4.out hb)
    clear hb y2 y3 HV4 HX4 HY4
    go_wp2
    exact bodyPost_ret (v := .bool true) (by simp [results, Try.results4, go_sem]) rfl ⟨rfl, HV5.out⟩
end Go.Proofs.Ytedlebkpdejhiac
