/-
  session.sender's queue: what it leaves.
-/
import Derived.Test.YtnhcecgmcmcioaaDoorSesFlyW
namespace Go.Proofs.YtnhcecgmcmcioaaDoor
open Go.RowKit Go.PlainAid

/-- what waits, one more if it may -/
def quS (s : Se) (t p : ByteArray) : Se := if (s.on = true ∨ s.clean = false) ∧ s.qu.length < 6 then { s with qu := s.qu ++ [⟨0, t, p⟩] } else s

/-- a sender whose two rows are its own -/
structure Sq (N b : Nat) (s : Se) (va vb vs : Value) (L : List Pk) (M : Nat) (w W : World) : Prop where
  box : NAt b s va vb vs W
  fl : W.ownsRow N 46 3 va s.fl.length (flCells s.fl)
  lt : ∀ k, va.ownBlock = some k → k < M
  qu : W.ownsRow M 46 3 vb s.qu.length (flCells s.qu)
  sent : W.ownsRow N 57 14 vs L.length (spCells L)
  bel : Below N w W
  le : N ≤ b
  nm : N ≤ M
  hm : M ≤ W.heap.size

section
variable {N b M : Nat} {s : Se} {va vb vs : Value} {L : List Pk} {w W W' : World}
theorem Sq.step (h : Sq N b s va vb vs L M w W) (hb : Below W.heap.size W W') : Sq N b s va vb vs L M w W' := by
  have hlt := h.box.lt
  refine ⟨?_, kown_below h.fl hb, h.lt, kown_below h.qu hb, kown_below h.sent hb, h.bel.trans (hb.mono (by have := h.le; omega)), h.le, h.nm, Nat.le_trans h.hm hb.size⟩
  have := h.box; unfold NAt at *; rw [hb.block b hlt]; exact this
theorem Sq.drew (h : Sq N b s va vb vs L M w W) : Sq N b s va vb vs L M w W.drew := h.step (Below.drew (Below.refl _ _))
theorem Sq.alloc (h : Sq N b s va vb vs L M w W) (o : Obj) : Sq N b s va vb vs L M w (W.alloc o) := h.step ((Below.refl _ W).alloc (Nat.le_refl _) o)
/-- what an append to the Queue leaves (its new value not stored yet) -/
theorem Sq.quMore (h : Sq N b s va vb vs L M w W) (hg : W.grownBy W' vb.ownBlock) : NAt b s va vb vs W' ∧ W'.ownsRow N 46 3 va s.fl.length (flCells s.fl) ∧ W'.ownsRow N 57 14 vs L.length (spCells L) ∧ Below N w W' := by
  have hlt := h.box.lt
  refine ⟨?_, kown_kept h.fl fun g hgg => hg.block g (kown_lt h.fl hgg) (fun e => ?_), kown_kept h.sent fun g hgg => hg.block g (kown_lt h.sent hgg) (fun e => ?_), Below.grown h.bel hg (by have := h.le; omega) (fun g hgg => Nat.le_trans h.nm (kown_at h.qu hgg).1)⟩
  · have := h.box
    have hne := kown_ne h.qu this (by decide)
    unfold NAt at *
    rw [hg.block b hlt (fun e => hne e.symm)]; exact this
  · have h1 := h.lt g hgg
    have h2 := (kown_at h.qu e.symm).1
    omega
  · obtain ⟨_, cur, hc⟩ := kown_at h.sent hgg
    exact kown_ne h.qu hc (by decide) e.symm
/-- .. and its new value is stored -/
theorem Sq.putQu (h : Sq N b s va vb vs L M w W) (hg : W.grownBy W' vb.ownBlock) {v' : Value} {q : List Fl} (hown : W'.ownsRow M 46 3 v' q.length (flCells q)) : Sq N b { s with qu := q } va v' vs L M w (W'.setCell ⟨b, 4, none⟩ v') := by
  obtain ⟨b1, f1, s1, bel1⟩ := h.quMore hg
  refine ⟨?_, kown_kept f1 fun g hgg => Below.heap_setCell _ _ _ _ (fun e => kown_ne f1 b1 (by decide) (by rw [hgg]; exact congrArg some e)), h.lt, kown_kept hown fun g hgg => Below.heap_setCell _ _ _ _ (fun e => kown_ne hown b1 (by decide) (by rw [hgg]; exact congrArg some e)), kown_kept s1 fun g hgg => Below.heap_setCell _ _ _ _ (fun e => kown_ne s1 b1 (by decide) (by rw [hgg]; exact congrArg some e)), bel1.setCell h.le _, h.le, h.nm, ?_⟩
  · unfold NAt at *; simp [World.setCell, Array.getElem?_modify, b1]
  · have := hg.size; have := h.hm; simp [World.setCell]; omega
/-- the Queue is only looked at from now on -/
theorem Sq.toSd {ab : Option Addr} {cb : Nat} (h : Sq N b s va (.slice ab s.qu.length cb) vs L M w W) : Sd N b s va ab cb vs L w W := by
  have hge : s.qu.length ≤ cb := by
    rcases h.qu.2 with ⟨e, h0⟩ | ⟨g, cap, cur, hv, _, _, hc, _⟩
    · omega
    · injection hv with _ _ e
      omega
  refine ⟨h.box, h.fl, ?_, h.sent, h.bel, h.le, hge⟩
  rcases own_fls h.qu rfl with h0 | ⟨g, o, ha, hg, hc⟩
  · exact .inl h0
  · have hb : (Value.slice ab s.qu.length cb).ownBlock = some g := by rw [ha]; rfl
    obtain ⟨h1, cur, h2⟩ := kown_at h.qu hb
    refine .inr ⟨g, o, cur, ha, Nat.le_trans h.nm h1, fun e => ?_, h2, hc⟩
    have := h.lt g e
    omega
end

set_option maxHeartbeats 8000000 in
set_option maxRecDepth 100000 in
theorem queue_any (N b M : Nat) (s : Se) (va vs : Value) (ab : Option Addr) (cb : Nat) (L : List Pk) (t p : ByteArray) (w W : World) (hs : Sq N b s va (.slice ab s.qu.length cb) vs L M w W) (h1 : t.size ≤ 281474976710656) (h2 : p.size ≤ 281474976710656) :
    Calls Tryd.prog 21 #[.pointer (some ⟨b, 0, none⟩), .string t, .string p] W fun e W' => e = .returned (.tuple #[]) ∧ ∃ ab' cb', Sq N b (quS s t p) va (.slice ab' (quS s t p).qu.length cb') vs L M w W' := by
  have HS := hide hs
  have HR : Hid (quS s t p = if (s.on = true ∨ s.clean = false) ∧ s.qu.length < 6 then { s with qu := s.qu ++ [⟨0, t, p⟩] } else s) := rfl
  generalize quS s t p = R at *
  have C := hide (fun V => clone_fl ⟨0, t, p⟩ V h1 h2)
  clear hs h1 h2
  obtain ⟨cl, on, clean, fl, qu, nx⟩ := s
  simp only at HS HR
  simp only [flV] at C
  have x1 : W.cell? ⟨b, 1, none⟩ = some (.bool on) := HS.out.box.cell 1
  have x2 : W.cell? ⟨b, 2, none⟩ = some (.bool clean) := HS.out.box.cell 2
  have x4 : W.cell? ⟨b, 4, none⟩ = some (.slice ab qu.length cb) := HS.out.box.cell 4
  have f4 : W.frozen? ⟨b, 4, none⟩ = false := HS.out.box.frozen 4
  by_cases hw : (on = true ∨ clean = false) ∧ qu.length < 6
  · have HQ := hide (HR.out.trans (if_pos hw))
    have hli : (qu.length : Int) < 6 := by omega
    have hl : qu.length ≤ 1048576 := by omega
    clear HR
    go_enter Tryd.func21, Tryd.ntmps21
    have hor : (on || !clean) = true := by rcases hw.1 with h | h <;> simp [h]
    clear hw
    have hgo : (on = true ∧ clean = true) ∨ (on = true ∧ clean = false) ∨ (on = false ∧ clean = false) := by
      cases on <;> cases clean <;> simp_all
    clear hor
    rcases hgo with ⟨rfl, rfl⟩ | ⟨rfl, rfl⟩ | ⟨rfl, rfl⟩
    all_goals
      go_upto_region 1 with fail
      go_region_law (first
        | (rw [if_pos (by rfl)]; go_simp; refine (C.out _).mono ?_; rintro e wc ⟨rfl, hbc⟩; have HC := hide (HS.out.drew.step hbc); have k4 : wc.cell? ⟨b, 4, none⟩ = some (.slice ab qu.length cb) := HC.out.box.cell 4; have k4a : (wc.alloc (.cells #[.int .i64 0, .string t, .string p] 46)).cell? ⟨b, 4, none⟩ = some (.slice ab qu.length cb) := (HC.out.alloc _).box.cell 4)
        | (refine stepFl (by rfl) _ _ (by rfl) qu (by rfl) _ (by rfl) (HC.out.alloc _).qu (HC.out.alloc _).hm ⟨0, t, p⟩ (by exact Go.heap_alloc_new _ _) hl ?_; intro g cap wa hown hgrow hat hcap; have ka4 : wa.cell? ⟨b, 4, none⟩ = some (.slice ab qu.length cb) := ((HC.out.alloc _).quMore hgrow).1.cell 4; have kaf4 : wa.frozen? ⟨b, 4, none⟩ = false := ((HC.out.alloc _).quMore hgrow).1.frozen 4))
      all_goals
        have HN := hide ((HC.out.alloc _).putQu hgrow hown)
        clear hown hgrow hat HC
        go_wp2
        go_end0
        exact ⟨rfl, some ⟨g, 0, none⟩, cap, by rw [HQ.out]; simp only; rw [List.length_append]; exact HN.out⟩
  · have HQ := hide (HR.out.trans (if_neg hw))
    have hor : on = false ∧ clean = true ∨ ¬ (qu.length : Int) < 6 := by
      by_cases h6 : (qu.length : Int) < 6
      · refine .inl ?_
        (cases on <;> cases clean <;> simp_all) <;> omega
      · exact .inr h6
    clear HR hw C
    go_enter Tryd.func21, Tryd.ntmps21
    rcases hor with ⟨rfl, rfl⟩ | h6
    · go_wp2
      go_end0
      exact ⟨rfl, ab, cb, by rw [HQ.out]; exact HS.out⟩
    · cases on <;> cases clean <;> (go_wp2; go_end0; exact ⟨rfl, ab, cb, by rw [HQ.out]; exact HS.out⟩)
end Go.Proofs.YtnhcecgmcmcioaaDoor
