/-
  dragomanlaw.OptionBack: true.
-/
import Derived.Test.YtgmjdelgocbcaacDoorOptBegun
import Derived.Test.YtgmjdelgocbcaacDoorOptBackMath
namespace Go.Proofs.YtgmjdelgocbcaacDoor
open Go.RowKit Go.PlainAid

/-- the boxes of the law -/
structure Ob (w : World) (o5 o9 o11 : Obj) (b : Nat) (W : World) : Prop where
  bel : Below w.heap.size w W
  x5 : W.heap[w.heap.size]? = some o5
  x9 : W.heap[w.heap.size + 1]? = some o9
  x11 : W.heap[b]? = some o11
  hb : w.heap.size + 1 < b
theorem Ob.step {w : World} {o5 o9 o11 : Obj} {b : Nat} {W W' : World} (h : Ob w o5 o9 o11 b W) (hb : Below W.heap.size W W') : Ob w o5 o9 o11 b W' :=
  ⟨below_step h.bel hb, box_step h.x5 hb, box_step h.x9 hb, box_step h.x11 hb, h.hb⟩
theorem Ob.drew {w : World} {o5 o9 o11 : Obj} {b : Nat} {W : World} (h : Ob w o5 o9 o11 b W) : Ob w o5 o9 o11 b W.drew := ⟨h.bel.drew, h.x5, h.x9, h.x11, h.hb⟩
theorem Ob.cell5 {w : World} {o9 o11 : Obj} {b : Nat} {W : World} {cs : Array Value} {t : TypeId} {fr : Nat × Nat} (h : Ob w (.cells cs t fr) o9 o11 b W) (o : Nat) : W.cell? ⟨w.heap.size, o, none⟩ = cs[o]? := Lib.cell_of_heap h.x5 o
theorem Ob.cell9 {w : World} {o5 o11 : Obj} {b : Nat} {W : World} {cs : Array Value} {t : TypeId} {fr : Nat × Nat} (h : Ob w o5 (.cells cs t fr) o11 b W) (o : Nat) : W.cell? ⟨w.heap.size + 1, o, none⟩ = cs[o]? := Lib.cell_of_heap h.x9 o
theorem Ob.cell11 {w : World} {o5 o9 : Obj} {b : Nat} {W : World} {cs : Array Value} {t : TypeId} {fr : Nat × Nat} (h : Ob w o5 o9 (.cells cs t fr) b W) (o : Nat) : W.cell? ⟨b, o, none⟩ = cs[o]? := Lib.cell_of_heap h.x11 o
theorem Ob.fz11 {w : World} {o5 o9 : Obj} {b : Nat} {W : World} {cs : Array Value} {t : TypeId} (h : Ob w o5 o9 (.cells cs t (0, 0)) b W) (o : Nat) : W.frozen? ⟨b, o, none⟩ = false := Lib.frozen_of_heap h.x11 o
theorem set6_self {W : World} {b : Nat} {y0 y1 y2 y3 y4 y5 : Value} {t : TypeId} (h : W.heap[b]? = some (.cells #[y0, y1, y2, y3, y4, y5] t (0, 0))) (x0 x1 x2 x3 x4 x5 : Value) : (set6 W b x0 x1 x2 x3 x4 x5).heap[b]? = some (.cells #[x0, x1, x2, x3, x4, x5] t (0, 0)) := by
  simp [set6, World.setCell, Array.getElem?_modify, h]
theorem Ob.set {w : World} {o5 o9 : Obj} {b : Nat} {W : World} {y0 y1 y2 y3 y4 y5 : Value} {t : TypeId} (h : Ob w o5 o9 (.cells #[y0, y1, y2, y3, y4, y5] t (0, 0)) b W) (x0 x1 x2 x3 x4 x5 : Value) : Ob w o5 o9 (.cells #[x0, x1, x2, x3, x4, x5] t (0, 0)) b (set6 W b x0 x1 x2 x3 x4 x5) :=
  ⟨set6_below h.bel (by have := h.hb; omega) _ _ _ _ _ _, (set6_other _ _ _ _ _ _ _ _ (by have := h.hb; omega)).trans h.x5, (set6_other _ _ _ _ _ _ _ _ (by have := h.hb; omega)).trans h.x9, set6_self h.x11 _ _ _ _ _ _, h.hb⟩
theorem Ob.lims {w : World} {a0 a1 a2 a3 a4 a5 b0 b1 b2 b3 b4 b5 : Value} {o9 : Obj} {t u : TypeId} {b : Nat} {W : World} (h : Ob w (.cells #[a0, a1, a2, a3, a4, a5] t (0, 0)) o9 (.cells #[b0, b1, b2, b3, b4, b5] u (0, 0)) b W) :
    W.cell? ⟨w.heap.size, 0, none⟩ = some a0 ∧ W.cell? ⟨w.heap.size, 1, none⟩ = some a1 ∧ W.cell? ⟨w.heap.size, 2, none⟩ = some a2 ∧ W.cell? ⟨w.heap.size, 3, none⟩ = some a3 ∧ W.cell? ⟨w.heap.size, 4, none⟩ = some a4 ∧ W.cell? ⟨w.heap.size, 5, none⟩ = some a5 ∧ W.cell? ⟨b, 0, none⟩ = some b0 ∧ W.cell? ⟨b, 1, none⟩ = some b1 ∧ W.cell? ⟨b, 2, none⟩ = some b2 ∧ W.cell? ⟨b, 3, none⟩ = some b3 ∧ W.cell? ⟨b, 4, none⟩ = some b4 ∧ W.cell? ⟨b, 5, none⟩ = some b5 :=
  ⟨h.cell5 0, h.cell5 1, h.cell5 2, h.cell5 3, h.cell5 4, h.cell5 5, h.cell11 0, h.cell11 1, h.cell11 2, h.cell11 3, h.cell11 4, h.cell11 5⟩
theorem Ob.lims2 {w : World} {a0 a1 a2 a3 a4 a5 b0 b1 b2 b3 b4 b5 c0 c1 c2 d0 d1 d2 : Value} {t u s r : TypeId} {b g : Nat} {W : World} (h : Ob w (.cells #[a0, a1, a2, a3, a4, a5] t (0, 0)) (.cells #[c0, c1, c2] s (0, 0)) (.cells #[b0, b1, b2, b3, b4, b5] u (0, 0)) b W) (k : W.heap[g]? = some (.cells #[d0, d1, d2] r (0, 0))) :
    W.cell? ⟨w.heap.size, 0, none⟩ = some a0 ∧ W.cell? ⟨w.heap.size, 1, none⟩ = some a1 ∧ W.cell? ⟨w.heap.size, 2, none⟩ = some a2 ∧ W.cell? ⟨w.heap.size, 3, none⟩ = some a3 ∧ W.cell? ⟨w.heap.size, 4, none⟩ = some a4 ∧ W.cell? ⟨w.heap.size, 5, none⟩ = some a5 ∧ W.cell? ⟨b, 0, none⟩ = some b0 ∧ W.cell? ⟨b, 1, none⟩ = some b1 ∧ W.cell? ⟨b, 2, none⟩ = some b2 ∧ W.cell? ⟨b, 3, none⟩ = some b3 ∧ W.cell? ⟨b, 4, none⟩ = some b4 ∧ W.cell? ⟨b, 5, none⟩ = some b5 ∧ W.cell? ⟨w.heap.size + 1, 0, none⟩ = some c0 ∧ W.cell? ⟨w.heap.size + 1, 1, none⟩ = some c1 ∧ W.cell? ⟨w.heap.size + 1, 2, none⟩ = some c2 ∧ W.cell? ⟨g, 0, none⟩ = some d0 ∧ W.cell? ⟨g, 1, none⟩ = some d1 ∧ W.cell? ⟨g, 2, none⟩ = some d2 :=
  ⟨h.cell5 0, h.cell5 1, h.cell5 2, h.cell5 3, h.cell5 4, h.cell5 5, h.cell11 0, h.cell11 1, h.cell11 2, h.cell11 3, h.cell11 4, h.cell11 5, h.cell9 0, h.cell9 1, h.cell9 2, Lib.cell_of_heap k 0, Lib.cell_of_heap k 1, Lib.cell_of_heap k 2⟩
/-- what is asked of bare and of SameMessage -/
def Leg (w : World) (ao : Option Addr) (co : Nat) (m M G : Mg) (n : Int) : Prop :=
  (∀ W aa ca, OptsIn W aa M.opts → Calls Tryd.prog 25 #[mgV M aa ca, .int .i64 n] W (NewO W G)) ∧
  (∀ W, Below w.heap.size w W → Calls Tryd.prog 25 #[mgV m ao co, .int .i64 n] W (NewO W G)) ∧
  (∀ W aa ca ab cb, OptsIn W aa G.opts → OptsIn W ab G.opts → Calls Tryd.prog 8 #[mgV G aa ca, mgV G ab cb] W fun e w' => e = .returned (.bool true) ∧ Below W.heap.size W w')
theorem leg_of {w : World} {ao : Option Addr} {co : Nat} {m M : Mg} {n : Int} (hl : OptsIn w ao m.opts) (hc : chkM m = 0) (h : bareG M n = bareG m n ∧ M.opts.length ≤ 12) : Leg w ao co m M (bareG m n) n :=
  ⟨fun W aa ca ho => by rw [← h.1]; exact bare_any M aa ca n W ho h.2, fun W hb => bare_any m ao co n W (hl.below hb) (chkM_ok hc).2.2.2.2.1,
    fun W aa ca ab cb h1 h2 => msame_yes (bareG m n) aa ab ca cb W h1 h2 (Nat.le_trans (bareG_len n hc) (by decide))⟩

set_option maxHeartbeats 16000000 in
set_option maxRecDepth 100000 in
theorem optionBack_any (m : Mg) (ao : Option Addr) (co : Nat) (x : ByteArray) (n a bn : Int) (bm : Bool) (bz : Int) (w : World) (hl : OptsIn w ao m.opts) (hm : Max w) :
    Calls Tryd.prog 5 #[mgV m ao co, .string x, .int .i64 n, .int .i64 a, bkV bn bm bz] w fun e w' => e = .returned (.bool true) ∧ Below w.heap.size w w' := by
  have P0 := hide (fun W (h : Below w.heap.size w W) => optionBegun_yes W (hm.below h))
  have P1 : Hid (∀ W, Below w.heap.size w W → Calls Tryd.prog 10 #[mgV m ao co, .string x] W (NewW W (wpM m x) (wpE m x))) := fun W h => by
    obtain ⟨hz, mx, hc⟩ := hm.below h
    exact withPath_any m ao co x mx W hc hz (hl.below h)
  have P2 : Hid (∀ W, Below w.heap.size w W → Calls Tryd.prog 7 #[mgV m ao co, .int .i64 n, .int .i64 a] W (NewW W (wuM m n a) (wuE m n a))) := fun W h => withUint_any m ao co n a W (hl.below h)
  have P3 : Hid (∀ W, Below w.heap.size w W → Calls Tryd.prog 13 #[mgV m ao co, bkV bn bm bz] W (NewW W (wbM m bn bm bz) (wbE m bn bm bz))) := fun W h => withBlock_any m ao co bn bm bz W (hl.below h)
  have L1 : Hid (wpE m x = 0 → (∀ W aa ca, Below w.heap.size w W → OptsIn W aa (wpM m x).opts → Calls Tryd.prog 9 #[mgV (wpM m x) aa ca] W fun e w' => e = .returned (.tuple #[.string x, .int .i64 0]) ∧ Below W.heap.size W w') ∧ Leg w ao co m (wpM m x) (bareG m 11) 11) := fun h => ⟨fun W aa ca hb ho => by
    obtain ⟨hz, mx, hc⟩ := hm.below hb
    have := path_any (wpM m x) aa ca mx W hc hz ho
    rwa [(path_with h).1, (path_with h).2] at this, leg_of hl (wp_ok h).1 (wp_bare h)⟩
  have L2 : Hid (wuE m n a = 0 → (∀ W aa ca, OptsIn W aa (wuM m n a).opts → Calls Tryd.prog 11 #[mgV (wuM m n a) aa ca, .int .i64 n] W fun e w' => e = .returned (.tuple #[.int .i64 a, .int .i64 0]) ∧ Below W.heap.size W w') ∧ Leg w ao co m (wuM m n a) (bareG m n) n) := fun h => ⟨fun W aa ca ho => by
    have := uint_any (wuM m n a) aa ca n W ho
    rwa [(uint_with h).1, (uint_with h).2] at this, leg_of hl (wu_ok h).1 (wu_bare h)⟩
  have L3 : Hid (wbE m bn bm bz = 0 → (∀ W aa ca, OptsIn W aa (wbM m bn bm bz).opts → Calls Tryd.prog 12 #[mgV (wbM m bn bm bz) aa ca] W fun e w' => e = .returned (.tuple #[.agg #[.int .i64 bn, .bool bm, .int .i64 bz], .int .i64 0]) ∧ Below W.heap.size W w') ∧ Leg w ao co m (wbM m bn bm bz) (bareG m 23) 23) := fun h => ⟨fun W aa ca ho => by
    have := block_any (wbM m bn bm bz) aa ca W ho
    rwa [(block_with h).1, (block_with h).2] at this, leg_of hl (wb_ok h).1 (wb_bare h)⟩
  have L4 : Hid (wbE m bn bm bz ≠ 0 → (wbM m bn bm bz).opts = [] ∧ (wbM m bn bm bz).payload = ⟨#[]⟩) := fun h => by rw [wb_bad h]; exact ⟨rfl, rfl⟩
  clear hl hm
  generalize bareG m 11 = G1 at *
  generalize bareG m n = G2 at *
  generalize bareG m 23 = G3 at *
  generalize wpM m x = M1 at *
  generalize wuM m n a = M2 at *
  generalize wbM m bn bm bz = M3 at *
  generalize hE1 : wpE m x = E1 at *
  generalize hE2 : wuE m n a = E2 at *
  generalize hE3 : wbE m bn bm bz = E3 at *
  clear hE1 hE2 hE3
  obtain ⟨k, c, i, t, l, p⟩ := m
  obtain ⟨k1, c1, i1, t1, l1, p1⟩ := M1
  obtain ⟨k2, c2, i2, t2, l2, p2⟩ := M2
  obtain ⟨k3, c3, i3, t3, l3, p3⟩ := M3
  obtain ⟨k4, c4, i4, t4, l4, p4⟩ := G1
  obtain ⟨k5, c5, i5, t5, l5, p5⟩ := G2
  obtain ⟨k6, c6, i6, t6, l6, p6⟩ := G3
  simp only [mgV, bkV, Leg] at P1 P2 P3 L1 L2 L3 L4 ⊢
  have HB0 := hide (((Below.refl w.heap.size w).alloc (Nat.le_refl _) (.cells #[.int .i64 k, .int .i64 c, .int .i64 i, .string t, .slice ao l.length co, .string p] 24)).alloc (by simp) (.cells #[.int .i64 bn, .bool bm, .int .i64 bz] 34))
  have HX5 : Hid (((w.alloc (.cells #[.int .i64 k, .int .i64 c, .int .i64 i, .string t, .slice ao l.length co, .string p] 24)).alloc (.cells #[.int .i64 bn, .bool bm, .int .i64 bz] 34)).heap[w.heap.size]? = some (.cells #[.int .i64 k, .int .i64 c, .int .i64 i, .string t, .slice ao l.length co, .string p] 24 (0, 0))) := by
    show _ = _
    rw [Below.heap_alloc _ _ _ (by simp)]; exact Go.heap_alloc_new w _
  have HX9 : Hid (((w.alloc (.cells #[.int .i64 k, .int .i64 c, .int .i64 i, .string t, .slice ao l.length co, .string p] 24)).alloc (.cells #[.int .i64 bn, .bool bm, .int .i64 bz] 34)).heap[w.heap.size + 1]? = some (.cells #[.int .i64 bn, .bool bm, .int .i64 bz] 34 (0, 0))) := oblk1 (by simp)
  go_enter Tryd.func5, Tryd.ntmps5
  go_upto_region 1 with fail
  revert HB0 HX5 HX9
  generalize (w.alloc (.cells #[.int .i64 k, .int .i64 c, .int .i64 i, .string t, .slice ao l.length co, .string p] 24)).alloc (.cells #[.int .i64 bn, .bool bm, .int .i64 bz] 34) = W0
  intro HB0 HX5 HX9
  go_wp2_with fail
  refine (P0.out _ HB0.out).mono ?_
  rintro e w1 ⟨rfl, hb1⟩
  have HB1 := hide (below_step HB0.out hb1)
  have HX5 := hide (box_step HX5.out hb1)
  have HX9 := hide (box_step HX9.out hb1)
  have q5 : ∀ o, w1.cell? ⟨w.heap.size, o, none⟩ = (#[.int .i64 k, .int .i64 c, .int .i64 i, .string t, .slice ao l.length co, .string p] : Array Value)[o]? := fun o => Lib.cell_of_heap HX5.out o
  clear hb1 HB0
  go_wp2_with fail
  refine (P1.out _ HB1.out).mono ?_
  rintro e w2 ⟨xa, xc, rfl, ho2, _, hb2⟩
  simp only [mgV]
  have HB2 := hide (below_step HB1.out hb2)
  have HX5 := hide (box_step HX5.out hb2)
  have HX9 := hide (box_step HX9.out hb2)
  have HOX : Hid (OptsIn w2 xa l1) := ho2
  clear hb2 ho2 HB1 q5 P0 P1
  go_upto_if 28 with fail
  have hal := (Below.refl w2.heap.size w2).alloc (Nat.le_refl _) (.cells #[.int .i64 k1, .int .i64 c1, .int .i64 i1, .string t1, .slice xa l1.length xc, .string p1] 24)
  have HI : Hid (Ob w (.cells #[.int .i64 k, .int .i64 c, .int .i64 i, .string t, .slice ao l.length co, .string p] 24 (0, 0)) (.cells #[.int .i64 bn, .bool bm, .int .i64 bz] 34 (0, 0)) (.cells #[.int .i64 k1, .int .i64 c1, .int .i64 i1, .string t1, .slice xa l1.length xc, .string p1] 24 (0, 0)) w2.heap.size (w2.alloc (.cells #[.int .i64 k1, .int .i64 c1, .int .i64 i1, .string t1, .slice xa l1.length xc, .string p1] 24))) := ⟨below_step HB2.out hal, box_step HX5.out hal, box_step HX9.out hal, Go.heap_alloc_new w2 _, box_lt HX9.out⟩
  have HOX := hide (HOX.out.below hal)
  clear hal HB2 HX5 HX9
  revert HI HOX
  generalize w2.alloc (.cells #[.int .i64 k1, .int .i64 c1, .int .i64 i1, .string t1, .slice xa l1.length xc, .string p1] 24) = W3
  generalize w2.heap.size = bx
  intro HI HOX
  go_cut [13, 14] (fun _ _ wr => Hid (Ob w (.cells #[.int .i64 k, .int .i64 c, .int .i64 i, .string t, .slice ao l.length co, .string p] 24 (0, 0)) (.cells #[.int .i64 bn, .bool bm, .int .i64 bz] 34 (0, 0)) (.cells #[.int .i64 k1, .int .i64 c1, .int .i64 i1, .string t1, .slice xa l1.length xc, .string p1] 24 (0, 0)) bx wr))
  case first =>
    by_cases hE : E1 = 0
    · subst hE
      obtain ⟨cp, ca', cb', cs'⟩ := L1.out rfl
      have CP := hide cp
      have CA := hide ca'
      have CB := hide cb'
      have CS := hide cs'
      clear cp ca' cb' cs' L1 L2 L3 L4 P2 P3
      have q11 := HI.out.cell11
      go_wp2_with fail
      refine (CP.out _ _ _ HI.out.bel HOX.out).mono ?_
      rintro e w4 ⟨rfl, hb4⟩
      have HI := hide (HI.out.step hb4)
      have HOX := hide (HOX.out.below hb4)
      clear hb4 CP q11
      go_upto_region 6 with fail
      go_cut [48] (fun z wr => z = .bool false ∧ Hid (Ob w (.cells #[.int .i64 k, .int .i64 c, .int .i64 i, .string t, .slice ao l.length co, .string p] 24 (0, 0)) (.cells #[.int .i64 bn, .bool bm, .int .i64 bz] 34 (0, 0)) (.cells #[.int .i64 k1, .int .i64 c1, .int .i64 i1, .string t1, .slice xa l1.length xc, .string p1] 24 (0, 0)) bx wr))
      case first =>
        have HIw := HI
        have HI := hide HI.out.drew
        have HOX := hide (HOX.out.below (Below.drew (Below.refl _ _)))
        go_region_held3 (fun w' => w'.cell? ⟨w.heap.size, 0, none⟩ = some (.int .i64 k) ∧ w'.cell? ⟨w.heap.size, 1, none⟩ = some (.int .i64 c) ∧ w'.cell? ⟨w.heap.size, 2, none⟩ = some (.int .i64 i) ∧ w'.cell? ⟨w.heap.size, 3, none⟩ = some (.string t) ∧ w'.cell? ⟨w.heap.size, 4, none⟩ = some (.slice ao l.length co) ∧ w'.cell? ⟨w.heap.size, 5, none⟩ = some (.string p) ∧ w'.cell? ⟨bx, 0, none⟩ = some (.int .i64 k1) ∧ w'.cell? ⟨bx, 1, none⟩ = some (.int .i64 c1) ∧ w'.cell? ⟨bx, 2, none⟩ = some (.int .i64 i1) ∧ w'.cell? ⟨bx, 3, none⟩ = some (.string t1) ∧ w'.cell? ⟨bx, 4, none⟩ = some (.slice xa l1.length xc) ∧ w'.cell? ⟨bx, 5, none⟩ = some (.string p1)) (first | exact HI.out.lims | exact HIw.out.lims | go_keep)
          (first
          | (go_at_call_of 25 t1; refine (CA.out _ _ _ HOX.out).mono ?_; rintro e wa ⟨ga, gc, rfl, hoa, _, hba⟩; simp only [mgV]; have HI := hide (HI.out.step hba); have HOX := hide (HOX.out.below hba); have HO1 := hide hoa; (try have HO2 := hide (HO2.out.below hba)); clear hba hoa)
          | (go_at_call_of 25 t; refine (CB.out _ HI.out.bel).mono ?_; rintro e wb ⟨gb, gd, rfl, hob, _, hbb⟩; simp only [mgV]; have HI := hide (HI.out.step hbb); have HOX := hide (HOX.out.below hbb); have HO2 := hide hob; (try have HO1 := hide (HO1.out.below hbb)); clear hbb hob)
          | (go_at_call 8; refine (CS.out _ _ _ _ _ HO1.out HO2.out).mono ?_; rintro e ws ⟨rfl, hbs⟩; have HI := hide (HI.out.step hbs); clear hbs)
          | fail)
        all_goals
          go_wp2_with fail
          go_meet
          case rel => exact ⟨by simp, HI.out⟩
      case rest =>
        obtain ⟨rfl, HI⟩ := hcut
        go_wp2_with fail
        go_meet
        case rel => exact HI
    · have hE' : (E1 == 0) = false := by simp [hE]
      go_wp2_with fail
      go_meet
      case rel => exact HI
  case rest =>
    obtain ⟨W6, hW6⟩ : ∃ W, W = wc := ⟨_, rfl⟩
    subst hW6
    have HI := hcut
    have q5 := HI.out.cell5
    have hbx := box_lt HI.out.x11
    clear hcut L1 HOX
    go_wp2_with fail
    refine (P2.out _ HI.out.bel).mono ?_
    rintro e w7 ⟨ya, yc, rfl, ho7, hf7, hb7⟩
    simp only [mgV]
    have HI := hide (HI.out.step hb7)
    have HOX : Hid (OptsIn (set6 w7 bx (.int .i64 k2) (.int .i64 c2) (.int .i64 i2) (.string t2) (.slice ya l2.length yc) (.string p2)) ya l2) := opts_fresh (w := W6) ho7 hf7 hbx _ _ _ _ _ _
    have q11 := HI.out.cell11
    have f11 := HI.out.fz11
    have HI := hide (HI.out.set (.int .i64 k2) (.int .i64 c2) (.int .i64 i2) (.string t2) (.slice ya l2.length yc) (.string p2))
    clear ho7 hf7 hb7 q5 hbx P2
    go_upto_if 57 with fail
    simp only [set6] at HI HOX
    revert HI HOX
    clear q11 f11
    generalize ((((((w7.setCell ⟨bx, 0, none⟩ (.int .i64 k2)).setCell ⟨bx, 1, none⟩ (.int .i64 c2)).setCell ⟨bx, 2, none⟩ (.int .i64 i2)).setCell ⟨bx, 3, none⟩ (.string t2)).setCell ⟨bx, 4, none⟩ (.slice ya l2.length yc)).setCell ⟨bx, 5, none⟩ (.string p2)) = W8
    intro HOX HI
    go_cut [15, 16] (fun _ _ wr => Hid (Ob w (.cells #[.int .i64 k, .int .i64 c, .int .i64 i, .string t, .slice ao l.length co, .string p] 24 (0, 0)) (.cells #[.int .i64 bn, .bool bm, .int .i64 bz] 34 (0, 0)) (.cells #[.int .i64 k2, .int .i64 c2, .int .i64 i2, .string t2, .slice ya l2.length yc, .string p2] 24 (0, 0)) bx wr))
    case first =>
      by_cases hE : E2 = 0
      · subst hE
        obtain ⟨cp, ca', cb', cs'⟩ := L2.out rfl
        have CP := hide cp
        have CA := hide ca'
        have CB := hide cb'
        have CS := hide cs'
        clear cp ca' cb' cs' L2 L3 L4 P3
        have q11 := HI.out.cell11
        go_wp2_with fail
        refine (CP.out _ _ _ HOX.out).mono ?_
        rintro e w4 ⟨rfl, hb4⟩
        have HI := hide (HI.out.step hb4)
        have HOX := hide (HOX.out.below hb4)
        clear hb4 CP q11
        go_upto_region 11 with fail
        go_cut [80] (fun z wr => z = .bool false ∧ Hid (Ob w (.cells #[.int .i64 k, .int .i64 c, .int .i64 i, .string t, .slice ao l.length co, .string p] 24 (0, 0)) (.cells #[.int .i64 bn, .bool bm, .int .i64 bz] 34 (0, 0)) (.cells #[.int .i64 k2, .int .i64 c2, .int .i64 i2, .string t2, .slice ya l2.length yc, .string p2] 24 (0, 0)) bx wr))
        case first =>
          have HIw := HI
          have HI := hide HI.out.drew
          have HOX := hide (HOX.out.below (Below.drew (Below.refl _ _)))
          go_region_held3 (fun w' => w'.cell? ⟨w.heap.size, 0, none⟩ = some (.int .i64 k) ∧ w'.cell? ⟨w.heap.size, 1, none⟩ = some (.int .i64 c) ∧ w'.cell? ⟨w.heap.size, 2, none⟩ = some (.int .i64 i) ∧ w'.cell? ⟨w.heap.size, 3, none⟩ = some (.string t) ∧ w'.cell? ⟨w.heap.size, 4, none⟩ = some (.slice ao l.length co) ∧ w'.cell? ⟨w.heap.size, 5, none⟩ = some (.string p) ∧ w'.cell? ⟨bx, 0, none⟩ = some (.int .i64 k2) ∧ w'.cell? ⟨bx, 1, none⟩ = some (.int .i64 c2) ∧ w'.cell? ⟨bx, 2, none⟩ = some (.int .i64 i2) ∧ w'.cell? ⟨bx, 3, none⟩ = some (.string t2) ∧ w'.cell? ⟨bx, 4, none⟩ = some (.slice ya l2.length yc) ∧ w'.cell? ⟨bx, 5, none⟩ = some (.string p2)) (first | exact HI.out.lims | exact HIw.out.lims | go_keep)
          (first
          | (go_at_call_of 25 t2; refine (CA.out _ _ _ HOX.out).mono ?_; rintro e wa ⟨ga, gc, rfl, hoa, _, hba⟩; simp only [mgV]; have HI := hide (HI.out.step hba); have HOX := hide (HOX.out.below hba); have HO1 := hide hoa; (try have HO2 := hide (HO2.out.below hba)); clear hba hoa)
          | (go_at_call_of 25 t; refine (CB.out _ HI.out.bel).mono ?_; rintro e wb ⟨gb, gd, rfl, hob, _, hbb⟩; simp only [mgV]; have HI := hide (HI.out.step hbb); have HOX := hide (HOX.out.below hbb); have HO2 := hide hob; (try have HO1 := hide (HO1.out.below hbb)); clear hbb hob)
          | (go_at_call 8; refine (CS.out _ _ _ _ _ HO1.out HO2.out).mono ?_; rintro e ws ⟨rfl, hbs⟩; have HI := hide (HI.out.step hbs); clear hbs)
          | fail)
          all_goals
            go_wp2_with fail
            go_meet
            case rel => exact ⟨by simp, HI.out⟩
        case rest =>
          obtain ⟨rfl, HI⟩ := hcut
          go_wp2_with fail
          go_meet
          case rel => exact HI
      · have hE' : (E2 == 0) = false := by simp [hE]
        go_wp2_with fail
        go_meet
        case rel => exact HI
    case rest =>
      obtain ⟨W9, hW9⟩ : ∃ W, W = wc := ⟨_, rfl⟩
      subst hW9
      have HI := hcut
      have q5 := HI.out.cell5
      have q9 := HI.out.cell9
      have hbx := box_lt HI.out.x11
      clear hcut L2 HOX
      go_wp2_with fail
      refine (P3.out _ HI.out.bel).mono ?_
      rintro e w10 ⟨za, zc, rfl, ho10, hf10, hb10⟩
      simp only [mgV]
      have HI := hide (HI.out.step hb10)
      have HOX : Hid (OptsIn (set6 w10 bx (.int .i64 k3) (.int .i64 c3) (.int .i64 i3) (.string t3) (.slice za l3.length zc) (.string p3)) za l3) := opts_fresh (w := W9) ho10 hf10 hbx _ _ _ _ _ _
      have q11 := HI.out.cell11
      have f11 := HI.out.fz11
      have HI := hide (HI.out.set (.int .i64 k3) (.int .i64 c3) (.int .i64 i3) (.string t3) (.slice za l3.length zc) (.string p3))
      clear ho10 hf10 hb10 q5 q9 hbx P3
      go_upto_if 88 with fail
      simp only [set6] at HI HOX
      revert HI HOX
      clear q11 f11
      generalize ((((((w10.setCell ⟨bx, 0, none⟩ (.int .i64 k3)).setCell ⟨bx, 1, none⟩ (.int .i64 c3)).setCell ⟨bx, 2, none⟩ (.int .i64 i3)).setCell ⟨bx, 3, none⟩ (.string t3)).setCell ⟨bx, 4, none⟩ (.slice za l3.length zc)).setCell ⟨bx, 5, none⟩ (.string p3)) = W11
      intro HOX HI
      by_cases hE : E3 = 0
      · subst hE
        obtain ⟨cp, ca', cb', cs'⟩ := L3.out rfl
        have CP := hide cp
        have CA := hide ca'
        have CB := hide cb'
        have CS := hide cs'
        clear cp ca' cb' cs' L3 L4
        have q11 := HI.out.cell11
        go_wp2_with fail
        refine (CP.out _ _ _ HOX.out).mono ?_
        rintro e w12 ⟨rfl, hb12⟩
        have HI := hide (HI.out.step hb12)
        have HOX := hide (HOX.out.below hb12)
        clear hb12 CP q11
        go_upto_region 17 with fail
        have hal := (Below.refl w12.heap.size w12).alloc (Nat.le_refl _) (.cells #[.int .i64 bn, .bool bm, .int .i64 bz] 34)
        have HI := hide (HI.out.step hal)
        have HOX := hide (HOX.out.below hal)
        have HX17 : Hid ((w12.alloc (.cells #[.int .i64 bn, .bool bm, .int .i64 bz] 34)).heap[w12.heap.size]? = some (.cells #[.int .i64 bn, .bool bm, .int .i64 bz] 34 (0, 0))) := Go.heap_alloc_new w12 _
        revert HI HOX HX17
        clear hal
        generalize w12.alloc (.cells #[.int .i64 bn, .bool bm, .int .i64 bz] 34) = W13
        generalize w12.heap.size = b17
        intro HI HOX HX17
        have HIw := HI
        have HI := hide HI.out.drew
        have HOX := hide (HOX.out.below (Below.drew (Below.refl _ _)))
        have HXw := HX17
        have HX17 := hide (box_step HX17.out (Below.drew (Below.refl _ _)))
        go_region_held3 (fun w' => w'.cell? ⟨w.heap.size, 0, none⟩ = some (.int .i64 k) ∧ w'.cell? ⟨w.heap.size, 1, none⟩ = some (.int .i64 c) ∧ w'.cell? ⟨w.heap.size, 2, none⟩ = some (.int .i64 i) ∧ w'.cell? ⟨w.heap.size, 3, none⟩ = some (.string t) ∧ w'.cell? ⟨w.heap.size, 4, none⟩ = some (.slice ao l.length co) ∧ w'.cell? ⟨w.heap.size, 5, none⟩ = some (.string p) ∧ w'.cell? ⟨bx, 0, none⟩ = some (.int .i64 k3) ∧ w'.cell? ⟨bx, 1, none⟩ = some (.int .i64 c3) ∧ w'.cell? ⟨bx, 2, none⟩ = some (.int .i64 i3) ∧ w'.cell? ⟨bx, 3, none⟩ = some (.string t3) ∧ w'.cell? ⟨bx, 4, none⟩ = some (.slice za l3.length zc) ∧ w'.cell? ⟨bx, 5, none⟩ = some (.string p3) ∧ w'.cell? ⟨w.heap.size + 1, 0, none⟩ = some (.int .i64 bn) ∧ w'.cell? ⟨w.heap.size + 1, 1, none⟩ = some (.bool bm) ∧ w'.cell? ⟨w.heap.size + 1, 2, none⟩ = some (.int .i64 bz) ∧ w'.cell? ⟨b17, 0, none⟩ = some (.int .i64 bn) ∧ w'.cell? ⟨b17, 1, none⟩ = some (.bool bm) ∧ w'.cell? ⟨b17, 2, none⟩ = some (.int .i64 bz)) (first | exact HI.out.lims2 HX17.out | exact HIw.out.lims2 HXw.out | go_keep)
          (first
          | (go_at_call_of 25 t3; refine (CA.out _ _ _ HOX.out).mono ?_; rintro e wa ⟨ga, gc, rfl, hoa, _, hba⟩; simp only [mgV]; have HI := hide (HI.out.step hba); have HOX := hide (HOX.out.below hba); have HO1 := hide hoa; (try have HO2 := hide (HO2.out.below hba)); have HX17 := hide (box_step HX17.out hba); clear hba hoa)
          | (go_at_call_of 25 t; refine (CB.out _ HI.out.bel).mono ?_; rintro e wb ⟨gb, gd, rfl, hob, _, hbb⟩; simp only [mgV]; have HI := hide (HI.out.step hbb); have HOX := hide (HOX.out.below hbb); have HO2 := hide hob; (try have HO1 := hide (HO1.out.below hbb)); have HX17 := hide (box_step HX17.out hbb); clear hbb hob)
          | (go_at_call 8; refine (CS.out _ _ _ _ _ HO1.out HO2.out).mono ?_; rintro e ws ⟨rfl, hbs⟩; have HI := hide (HI.out.step hbs); have HX17 := hide (box_step HX17.out hbs); clear hbs)
          | fail)
        all_goals
          go_wp2
          go_ret
          exact ⟨by simp, HI.out.bel⟩
      · have hE' : (E3 != 0) = true := by simp [hE]
        obtain ⟨e3, e4⟩ := L4.out hE
        subst e3 e4
        have q11 := HI.out.cell11
        clear L3 L4
        go_wp2
        go_ret
        exact ⟨by simp, HI.out.bel⟩
theorem optionBack_yes (m : Mg) (ao : Option Addr) (co : Nat) {w : World} (hl : OptsIn w ao m.opts) (x : ByteArray) (n a bn : Int) (bm : Bool) (bz : Int) (hm : Max w) :
    Calls Tryd.prog 5 #[mgV m ao co, .string x, .int .i64 n, .int .i64 a, .agg #[.int .i64 bn, .bool bm, .int .i64 bz]] w fun e w' => e = .returned (.bool true) ∧ Below w.heap.size w w' := optionBack_any m ao co x n a bn bm bz w hl hm
end Go.Proofs.YtgmjdelgocbcaacDoor
