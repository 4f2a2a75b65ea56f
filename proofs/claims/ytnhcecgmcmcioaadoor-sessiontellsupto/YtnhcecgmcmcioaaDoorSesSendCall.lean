/-
  session.Send: what it answers.
-/
import Derived.Test.YtnhcecgmcmcioaaDoorSesCalls
namespace Go.Proofs.YtnhcecgmcmcioaaDoor
open Go.RowKit Go.PlainAid

/-- the boxes of a call of Send, from B on -/
structure Sn (B : Nat) (s : Se) (aa : Option Addr) (ca : Nat) (ab : Option Addr) (cb : Nat) (t p : ByteArray) (q : Int) (w W : World) : Prop where
  d : SAt B s (.slice aa s.fl.length ca) (.slice ab s.qu.length cb) W
  t : W.heap[B + 1]? = some (.cells #[.string t] 9 (0, 0))
  p : W.heap[B + 1 + 1]? = some (.cells #[.string p] 9 (0, 0))
  q : W.heap[B + 1 + 1 + 1]? = some (.cells #[.int .i64 q] 3 (0, 0))
  z : SAt (B + 1 + 1 + 1 + 1) zeroSe (.slice none 0 0) (.slice none 0 0) W
  bel : Below B w W
theorem Sn.step {B : Nat} {s : Se} {aa : Option Addr} {ca : Nat} {ab : Option Addr} {cb : Nat} {t p : ByteArray} {q : Int} {w W W' : World} (h : Sn B s aa ca ab cb t p q w W) (hb : Below W.heap.size W W') : Sn B s aa ca ab cb t p q w W' := by
  have hl := h.z.lt
  refine ⟨h.d.after hb, (hb.block _ (by omega)).trans h.t, (hb.block _ (by omega)).trans h.p, (hb.block _ (by omega)).trans h.q, h.z.after hb, h.bel.trans (hb.mono (by omega))⟩
theorem Sn.drew {B : Nat} {s : Se} {aa : Option Addr} {ca : Nat} {ab : Option Addr} {cb : Nat} {t p : ByteArray} {q : Int} {w W : World} (h : Sn B s aa ca ab cb t p q w W) : Sn B s aa ca ab cb t p q w W.drew := h.step (Below.drew (Below.refl _ _))
theorem Sn.new (s : Se) (aa : Option Addr) (ca : Nat) (ab : Option Addr) (cb : Nat) (t p : ByteArray) (q : Int) (w : World) : Sn w.heap.size s aa ca ab cb t p q w (((((w.alloc (.cells #[.string s.client, .bool s.on, .bool s.clean, .slice aa s.fl.length ca, .slice ab s.qu.length cb, .int .i64 s.next] 24)).alloc (.cells #[.string t] 9)).alloc (.cells #[.string p] 9)).alloc (.cells #[.int .i64 q] 3)).alloc (.cells #[.string ⟨#[]⟩, .bool false, .bool false, .slice none 0 0, .slice none 0 0, .int .i64 0] 24)) := by
  refine ⟨?_, ?_, ?_, ?_, ?_, ?_⟩
  · show _ = _
    rw [Below.heap_alloc _ _ _ (by simp <;> omega), Below.heap_alloc _ _ _ (by simp <;> omega), Below.heap_alloc _ _ _ (by simp <;> omega), Below.heap_alloc _ _ _ (by simp)]
    exact sat_new s _ _ w
  · rw [Below.heap_alloc _ _ _ (by simp <;> omega), Below.heap_alloc _ _ _ (by simp <;> omega), Below.heap_alloc _ _ _ (by simp)]
    have := Go.heap_alloc_new (w.alloc (.cells #[.string s.client, .bool s.on, .bool s.clean, .slice aa s.fl.length ca, .slice ab s.qu.length cb, .int .i64 s.next] 24)) (.cells #[.string t] 9)
    simp only [World.size_alloc] at this
    exact this
  · rw [Below.heap_alloc _ _ _ (by simp <;> omega), Below.heap_alloc _ _ _ (by simp)]
    have := Go.heap_alloc_new ((w.alloc (.cells #[.string s.client, .bool s.on, .bool s.clean, .slice aa s.fl.length ca, .slice ab s.qu.length cb, .int .i64 s.next] 24)).alloc (.cells #[.string t] 9)) (.cells #[.string p] 9)
    simp only [World.size_alloc] at this
    exact this
  · rw [Below.heap_alloc _ _ _ (by simp)]
    have := Go.heap_alloc_new (((w.alloc (.cells #[.string s.client, .bool s.on, .bool s.clean, .slice aa s.fl.length ca, .slice ab s.qu.length cb, .int .i64 s.next] 24)).alloc (.cells #[.string t] 9)).alloc (.cells #[.string p] 9)) (.cells #[.int .i64 q] 3)
    simp only [World.size_alloc] at this
    exact this
  · have := sat_new zeroSe (.slice none 0 0) (.slice none 0 0) ((((w.alloc (.cells #[.string s.client, .bool s.on, .bool s.clean, .slice aa s.fl.length ca, .slice ab s.qu.length cb, .int .i64 s.next] 24)).alloc (.cells #[.string t] 9)).alloc (.cells #[.string p] 9)).alloc (.cells #[.int .i64 q] 3))
    simp only [World.size_alloc] at this
    exact this
  · exact (((((Below.refl w.heap.size w).alloc (Nat.le_refl _) (.cells #[.string s.client, .bool s.on, .bool s.clean, .slice aa s.fl.length ca, .slice ab s.qu.length cb, .int .i64 s.next] 24)).alloc (by simp) (.cells #[.string t] 9)).alloc (by simp <;> omega) (.cells #[.string p] 9)).alloc (by simp <;> omega) (.cells #[.int .i64 q] 3)).alloc (by simp <;> omega) (.cells #[.string ⟨#[]⟩, .bool false, .bool false, .slice none 0 0, .slice none 0 0, .int .i64 0] 24)

theorem six_other {W : World} {B b o : Nat} {x : Value} (hb : b ≠ B + 1 + 1 + 1 + 1) (h : W.cell? ⟨b, o, none⟩ = some x) (v0 v1 v2 v3 v4 v5 : Value) : ((((((W.setCell ⟨B + 1 + 1 + 1 + 1, 0, none⟩ v0).setCell ⟨B + 1 + 1 + 1 + 1, 1, none⟩ v1).setCell ⟨B + 1 + 1 + 1 + 1, 2, none⟩ v2).setCell ⟨B + 1 + 1 + 1 + 1, 3, none⟩ v3).setCell ⟨B + 1 + 1 + 1 + 1, 4, none⟩ v4).setCell ⟨B + 1 + 1 + 1 + 1, 5, none⟩ v5).cell? ⟨b, o, none⟩ = some x := by
  rw [World.cell?_of_block (w := W) (a := ⟨b, o, none⟩) (by rw [Below.heap_setCell _ _ _ _ hb, Below.heap_setCell _ _ _ _ hb, Below.heap_setCell _ _ _ _ hb, Below.heap_setCell _ _ _ _ hb, Below.heap_setCell _ _ _ _ hb, Below.heap_setCell _ _ _ _ hb])]
  exact h
theorem sn_six {W : World} {B : Nat} {s : Se} {aa : Option Addr} {ca : Nat} {ab : Option Addr} {cb : Nat} {t p : ByteArray} {q : Int} (h0 : W.cell? ⟨B, 0, none⟩ = some (.string s.client)) (h1 : W.cell? ⟨B, 1, none⟩ = some (.bool s.on)) (h2 : W.cell? ⟨B, 2, none⟩ = some (.bool s.clean)) (h3 : W.cell? ⟨B, 3, none⟩ = some (.slice aa s.fl.length ca)) (h4 : W.cell? ⟨B, 4, none⟩ = some (.slice ab s.qu.length cb)) (h5 : W.cell? ⟨B, 5, none⟩ = some (.int .i64 s.next)) (h6 : W.cell? ⟨B + 1, 0, none⟩ = some (.string t)) (h7 : W.cell? ⟨B + 1 + 1, 0, none⟩ = some (.string p)) (h8 : W.cell? ⟨B + 1 + 1 + 1, 0, none⟩ = some (.int .i64 q)) (v0 v1 v2 v3 v4 v5 : Value) : ((((((W.setCell ⟨B + 1 + 1 + 1 + 1, 0, none⟩ v0).setCell ⟨B + 1 + 1 + 1 + 1, 1, none⟩ v1).setCell ⟨B + 1 + 1 + 1 + 1, 2, none⟩ v2).setCell ⟨B + 1 + 1 + 1 + 1, 3, none⟩ v3).setCell ⟨B + 1 + 1 + 1 + 1, 4, none⟩ v4).setCell ⟨B + 1 + 1 + 1 + 1, 5, none⟩ v5).cell? ⟨B, 0, none⟩ = some (.string s.client) ∧ ((((((W.setCell ⟨B + 1 + 1 + 1 + 1, 0, none⟩ v0).setCell ⟨B + 1 + 1 + 1 + 1, 1, none⟩ v1).setCell ⟨B + 1 + 1 + 1 + 1, 2, none⟩ v2).setCell ⟨B + 1 + 1 + 1 + 1, 3, none⟩ v3).setCell ⟨B + 1 + 1 + 1 + 1, 4, none⟩ v4).setCell ⟨B + 1 + 1 + 1 + 1, 5, none⟩ v5).cell? ⟨B, 1, none⟩ = some (.bool s.on) ∧ ((((((W.setCell ⟨B + 1 + 1 + 1 + 1, 0, none⟩ v0).setCell ⟨B + 1 + 1 + 1 + 1, 1, none⟩ v1).setCell ⟨B + 1 + 1 + 1 + 1, 2, none⟩ v2).setCell ⟨B + 1 + 1 + 1 + 1, 3, none⟩ v3).setCell ⟨B + 1 + 1 + 1 + 1, 4, none⟩ v4).setCell ⟨B + 1 + 1 + 1 + 1, 5, none⟩ v5).cell? ⟨B, 2, none⟩ = some (.bool s.clean) ∧ ((((((W.setCell ⟨B + 1 + 1 + 1 + 1, 0, none⟩ v0).setCell ⟨B + 1 + 1 + 1 + 1, 1, none⟩ v1).setCell ⟨B + 1 + 1 + 1 + 1, 2, none⟩ v2).setCell ⟨B + 1 + 1 + 1 + 1, 3, none⟩ v3).setCell ⟨B + 1 + 1 + 1 + 1, 4, none⟩ v4).setCell ⟨B + 1 + 1 + 1 + 1, 5, none⟩ v5).cell? ⟨B, 3, none⟩ = some (.slice aa s.fl.length ca) ∧ ((((((W.setCell ⟨B + 1 + 1 + 1 + 1, 0, none⟩ v0).setCell ⟨B + 1 + 1 + 1 + 1, 1, none⟩ v1).setCell ⟨B + 1 + 1 + 1 + 1, 2, none⟩ v2).setCell ⟨B + 1 + 1 + 1 + 1, 3, none⟩ v3).setCell ⟨B + 1 + 1 + 1 + 1, 4, none⟩ v4).setCell ⟨B + 1 + 1 + 1 + 1, 5, none⟩ v5).cell? ⟨B, 4, none⟩ = some (.slice ab s.qu.length cb) ∧ ((((((W.setCell ⟨B + 1 + 1 + 1 + 1, 0, none⟩ v0).setCell ⟨B + 1 + 1 + 1 + 1, 1, none⟩ v1).setCell ⟨B + 1 + 1 + 1 + 1, 2, none⟩ v2).setCell ⟨B + 1 + 1 + 1 + 1, 3, none⟩ v3).setCell ⟨B + 1 + 1 + 1 + 1, 4, none⟩ v4).setCell ⟨B + 1 + 1 + 1 + 1, 5, none⟩ v5).cell? ⟨B, 5, none⟩ = some (.int .i64 s.next) ∧ ((((((W.setCell ⟨B + 1 + 1 + 1 + 1, 0, none⟩ v0).setCell ⟨B + 1 + 1 + 1 + 1, 1, none⟩ v1).setCell ⟨B + 1 + 1 + 1 + 1, 2, none⟩ v2).setCell ⟨B + 1 + 1 + 1 + 1, 3, none⟩ v3).setCell ⟨B + 1 + 1 + 1 + 1, 4, none⟩ v4).setCell ⟨B + 1 + 1 + 1 + 1, 5, none⟩ v5).cell? ⟨B + 1, 0, none⟩ = some (.string t) ∧ ((((((W.setCell ⟨B + 1 + 1 + 1 + 1, 0, none⟩ v0).setCell ⟨B + 1 + 1 + 1 + 1, 1, none⟩ v1).setCell ⟨B + 1 + 1 + 1 + 1, 2, none⟩ v2).setCell ⟨B + 1 + 1 + 1 + 1, 3, none⟩ v3).setCell ⟨B + 1 + 1 + 1 + 1, 4, none⟩ v4).setCell ⟨B + 1 + 1 + 1 + 1, 5, none⟩ v5).cell? ⟨B + 1 + 1, 0, none⟩ = some (.string p) ∧ ((((((W.setCell ⟨B + 1 + 1 + 1 + 1, 0, none⟩ v0).setCell ⟨B + 1 + 1 + 1 + 1, 1, none⟩ v1).setCell ⟨B + 1 + 1 + 1 + 1, 2, none⟩ v2).setCell ⟨B + 1 + 1 + 1 + 1, 3, none⟩ v3).setCell ⟨B + 1 + 1 + 1 + 1, 4, none⟩ v4).setCell ⟨B + 1 + 1 + 1 + 1, 5, none⟩ v5).cell? ⟨B + 1 + 1 + 1, 0, none⟩ = some (.int .i64 q) :=
  ⟨six_other (by omega) h0 v0 v1 v2 v3 v4 v5, six_other (by omega) h1 v0 v1 v2 v3 v4 v5, six_other (by omega) h2 v0 v1 v2 v3 v4 v5, six_other (by omega) h3 v0 v1 v2 v3 v4 v5, six_other (by omega) h4 v0 v1 v2 v3 v4 v5, six_other (by omega) h5 v0 v1 v2 v3 v4 v5, six_other (by omega) h6 v0 v1 v2 v3 v4 v5, six_other (by omega) h7 v0 v1 v2 v3 v4 v5, six_other (by omega) h8 v0 v1 v2 v3 v4 v5⟩
theorem Sn.cells {B : Nat} {s : Se} {aa : Option Addr} {ca : Nat} {ab : Option Addr} {cb : Nat} {t p : ByteArray} {q : Int} {w W : World} (h : Sn B s aa ca ab cb t p q w W) : W.cell? ⟨B, 0, none⟩ = some (.string s.client) ∧ W.cell? ⟨B, 1, none⟩ = some (.bool s.on) ∧ W.cell? ⟨B, 2, none⟩ = some (.bool s.clean) ∧ W.cell? ⟨B, 3, none⟩ = some (.slice aa s.fl.length ca) ∧ W.cell? ⟨B, 4, none⟩ = some (.slice ab s.qu.length cb) ∧ W.cell? ⟨B, 5, none⟩ = some (.int .i64 s.next) ∧ W.cell? ⟨B + 1, 0, none⟩ = some (.string t) ∧ W.cell? ⟨B + 1 + 1, 0, none⟩ = some (.string p) ∧ W.cell? ⟨B + 1 + 1 + 1, 0, none⟩ = some (.int .i64 q) :=
  ⟨h.d.cell 0, h.d.cell 1, h.d.cell 2, h.d.cell 3, h.d.cell 4, h.d.cell 5, Lib.cell_of_heap h.t 0, Lib.cell_of_heap h.p 0, Lib.cell_of_heap h.q 0⟩

set_option maxHeartbeats 4000000 in
set_option maxRecDepth 100000 in
theorem send_any (s : Se) (aa ab : Option Addr) (ca cb : Nat) (t p : ByteArray) (q : Int) (w : World) (hs : SeIn w s aa ab) (hca : s.fl.length ≤ ca) (hm : Max w) :
    Calls Tryd.prog 5 #[seV s aa ca ab cb, .string t, .string p, .int .i64 q] w (SPost (sendE s t p q) (sendR s t p q) w) := by
  have CA : Hid (∀ V, Below w.heap.size w V → Calls Tryd.prog 19 #[.string t, .string p, .int .i64 q] V fun e w' => e = .returned (.int .i64 (askedE t p q)) ∧ Below V.heap.size V w') := fun V h => checkAsked_any t p q V (hm.below h)
  have CS : Hid (∀ V, Sn w.heap.size s aa ca ab cb t p q w V → Calls Tryd.prog 18 #[.agg #[.string s.client, .bool s.on, .bool s.clean, .slice aa s.fl.length ca, .slice ab s.qu.length cb, .int .i64 s.next], .int .i64 (askedE t p q), .func (.func 20) #[] #[.pointer (some ⟨w.heap.size + 1 + 1 + 1, 0, none⟩), .pointer (some ⟨w.heap.size + 1, 0, none⟩), .pointer (some ⟨w.heap.size + 1 + 1, 0, none⟩)]] V (SPost (sendE s t p q) (sendR s t p q) V)) := fun V h => by
    have hl := h.z.lt
    refine (sendingSend_any s _ aa ab ca cb V (hs.below h.bel) hca (w.heap.size + 1 + 1 + 1) (w.heap.size + 1) (w.heap.size + 1 + 1) (hm.below h.bel) (fun V => V.cell? ⟨w.heap.size + 1 + 1 + 1, 0, none⟩ = some (.int .i64 q) ∧ V.cell? ⟨w.heap.size + 1, 0, none⟩ = some (.string t) ∧ V.cell? ⟨w.heap.size + 1 + 1, 0, none⟩ = some (.string p)) (fun U hU => ?_) (askedE t p q) (fun h0 hE => acts_send h0 hE)).mono fun e w' h' => h'.out
    have := h.step hU
    exact ⟨Lib.cell_of_heap this.q 0, Lib.cell_of_heap this.t 0, Lib.cell_of_heap this.p 0⟩
  have HS0 := hide (Sn.new s aa ca ab cb t p q w)
  clear hs hm
  generalize sendR s t p q = R at *
  generalize sendE s t p q = E at *
  generalize askedE t p q = AE at *
  simp only [seV]
  go_enter Tryd.func5, Tryd.ntmps5
  go_upto_region 1 with fail
  revert HS0
  generalize ((((w.alloc (.cells #[.string s.client, .bool s.on, .bool s.clean, .slice aa s.fl.length ca, .slice ab s.qu.length cb, .int .i64 s.next] 24)).alloc (.cells #[.string t] 9)).alloc (.cells #[.string p] 9)).alloc (.cells #[.int .i64 q] 3)).alloc (.cells #[.string ⟨#[]⟩, .bool false, .bool false, .slice none 0 0, .slice none 0 0, .int .i64 0] 24) = W0
  intro HS0
  obtain ⟨x0, x1, x2, x3, x4, x5, x6, x7, x8⟩ := HS0.out.cells
  go_region_held3 (fun w' => w'.cell? ⟨w.heap.size, 0, none⟩ = some (.string s.client) ∧ w'.cell? ⟨w.heap.size, 1, none⟩ = some (.bool s.on) ∧ w'.cell? ⟨w.heap.size, 2, none⟩ = some (.bool s.clean) ∧ w'.cell? ⟨w.heap.size, 3, none⟩ = some (.slice aa s.fl.length ca) ∧ w'.cell? ⟨w.heap.size, 4, none⟩ = some (.slice ab s.qu.length cb) ∧ w'.cell? ⟨w.heap.size, 5, none⟩ = some (.int .i64 s.next) ∧ w'.cell? ⟨w.heap.size + 1, 0, none⟩ = some (.string t) ∧ w'.cell? ⟨w.heap.size + 1 + 1, 0, none⟩ = some (.string p) ∧ w'.cell? ⟨w.heap.size + 1 + 1 + 1, 0, none⟩ = some (.int .i64 q)) (first
      | (refine ⟨?_, ?_, ?_, ?_, ?_, ?_, ?_, ?_, ?_⟩ <;> with_reducible assumption)
      | (go_split_ands; with_reducible refine sn_six ?_ ?_ ?_ ?_ ?_ ?_ ?_ ?_ ?_ _ _ _ _ _ _ <;> with_reducible assumption)
      | go_keep
      | fail)
    (first
      | (go_at_call 19; refine (CA.out _ HS0.out.drew.bel).mono ?_; rintro e wa ⟨rfl, hba⟩; have HSA := hide (HS0.out.drew.step hba); obtain ⟨i0, i1, i2, i3, i4, i5, i6, i7, i8⟩ := HSA.out.cells)
      | (go_at_call 18; refine (CS.out _ HSA.out).mono ?_; rintro e wb ⟨a1, c1, a2, c2, ao, cs, rfl, ho, hb⟩; have ZB := hide (HSA.out.z.after hb); have HZL := hide HSA.out.z.lt; have HO := hide ho; have HB := hide (HSA.out.bel.trans (hb.mono (by have := HSA.out.z.lt; omega))); obtain ⟨j0, j1, j2, j3, j4, j5, j6, j7, j8⟩ := (HSA.out.step hb).cells; have z1 := ZB.out.cell; have z2 := ZB.out.frozen; simp only [zeroSe] at z1)
      | fail)
  all_goals
    have HO2 := hide (((out_six HO.out HZL.out (.string R.1.client) (.bool R.1.on) (.bool R.1.clean) (.slice a1 R.1.fl.length c1) (.slice a2 R.1.qu.length c2) (.int .i64 R.1.next))).mono HSA.out.bel.size)
    have HB2 := hide (ssix_below HB.out (show w.heap.size ≤ w.heap.size + 1 + 1 + 1 + 1 by omega) (.string R.1.client) (.bool R.1.on) (.bool R.1.clean) (.slice a1 R.1.fl.length c1) (.slice a2 R.1.qu.length c2) (.int .i64 R.1.next))
    clear HSA HO HB HZL x0 x1 x2 x3 x4 x5 x6 x7 x8 i0 i1 i2 i3 i4 i5 i6 i7 i8 j0 j1 j2 j3 j4 j5 j6 j7 j8 CS CA HS0 ZB z2 ho hb
    go_simp
    go_wp2
    exact bodyPost_ret (v := .tuple #[.agg #[.string R.1.client, .bool R.1.on, .bool R.1.clean, .slice a1 R.1.fl.length c1, .slice a2 R.1.qu.length c2, .int .i64 R.1.next], .slice ao R.2.length cs, .int .i64 E]) (by simp [results, Tryd.results5, go_sem, World.cell?_setCell_same, z1]) rfl ⟨a1, c1, a2, c2, ao, cs, rfl, HO2.out, HB2.out⟩
end Go.Proofs.YtnhcecgmcmcioaaDoor
