/-
  packet.reader's whileLeft, asks and codes: what they read.
-/
import Derived.Test.YtgmjdelgocbcaabDoorReaderCodes
import Derived.Deep.LoopGhost
namespace Go.Proofs.YtgmjdelgocbcaabDoor
open Go.RowKit Go.PlainAid Go.Deep

/-- asks while there are bytes: so many at the most -/
def rAsks (s : ByteArray) (kind : Int) : Nat → Nat → Bool → List (ByteArray × Int) → List (ByteArray × Int) × Nat × Bool
  | 0, n, bad, l => (l, n, bad)
  | f + 1, n, bad, l => if bad = false ∧ n < s.size then rAsks s kind f (a1At s kind n) (a1Bad s kind n bad) (addTo l (a1 s kind n)) else (l, n, bad)
def rCodes (s : ByteArray) : Nat → Nat → Bool → List Int → List Int × Nat × Bool
  | 0, n, bad, l => (l, n, bad)
  | f + 1, n, bad, l => if bad = false ∧ n < s.size then rCodes s f (rnAt s n 1) (rnBad s n 1 bad) (addTo l (getR s n (1 : Nat)).1) else (l, n, bad)

theorem Kt.of_drewN (B a b : Nat) (T : TypeId) (w : World) (n : Nat) : Kt B a b T w (w.drewN n) := ⟨rfl, rfl, rfl, Nat.le_refl _, fun _ _ => rfl, fun _ _ h _ _ _ => h⟩
theorem addTo_le {α : Type} {l : List α} {x : α} (h : l.length ≤ 6) : (addTo l x).length ≤ 6 := by
  unfold addTo; split
  · simp; omega
  · exact h
theorem rnAt_ge (s : ByteArray) (n k : Nat) : n ≤ rnAt s n k := by unfold rnAt; split <;> omega
theorem rt_moves {s : ByteArray} {n : Nat} {bad : Bool} (h : rtBad s n bad = false) : n + 2 ≤ rtAt s n := by
  unfold rtBad at h
  simp only [Bool.or_eq_false_iff, Bool.not_eq_false', beq_iff_eq] at h
  have h2 := h.2
  unfold rtAt
  unfold gtR at h2 ⊢
  split at h2
  · simp at h2
  · split at h2
    · simp at h2
    · split at h2
      · simp at h2
      · rename_i g1 g2 g3
        rw [if_neg g1, if_neg g2, if_neg g3]
        simp only
        omega
theorem a1At_le {s : ByteArray} {kind : Int} {n : Nat} (hn : n ≤ s.size) : a1At s kind n ≤ s.size := by
  unfold a1At; split
  · exact rnAt_le (rtAt_le hn)
  · exact rtAt_le hn
theorem a1_moves {s : ByteArray} {kind : Int} {n : Nat} {bad : Bool} (h : a1Bad s kind n bad = false) : n < a1At s kind n := by
  unfold a1Bad at h
  unfold a1At
  split at h
  · rename_i hk
    rw [if_pos hk]
    have h1 : rtBad s n bad = false := by unfold rnBad at h; simp only [Bool.or_eq_false_iff] at h; exact h.1
    have := rt_moves h1
    have := rnAt_ge s (rtAt s n) 1
    omega
  · rename_i hk
    rw [if_neg hk]
    have := rt_moves h
    omega
theorem rn_moves {s : ByteArray} {n : Nat} {bad : Bool} (h : rnBad s n 1 bad = false) : n < rnAt s n 1 := by
  unfold rnBad at h
  simp only [Bool.or_eq_false_iff, Bool.not_eq_false', beq_iff_eq] at h
  unfold rnAt
  rw [if_pos h.2]
  omega

set_option maxHeartbeats 4000000 in
theorem whileAsks_any (B br bp c1 c2 : Nat) (s : ByteArray) (n : Nat) (bad : Bool) (p : Pk) (va vc : Value) (w : World)
    (hB1 : B ≤ br) (hB2 : B ≤ bp) (hB : B ≤ w.heap.size) (hne : bp ≠ br)
    (hc1 : w.heap[c1]? = some (.cells #[.pointer (some ⟨br, 0, none⟩)] 83 (0, 0))) (hc2 : w.heap[c2]? = some (.cells #[.pointer (some ⟨bp, 0, none⟩)] 104 (0, 0)))
    (hR : Rd br s n bad w) (hs : s.size ≤ maxLen) (hn : n ≤ s.size) (hP : PAt bp p va vc w) (hO : w.ownsRow B 60 2 va 0 []) :
    Calls Tryd.prog 93 #[.pointer (some ⟨br, 0, none⟩), .func (.func 94) #[] #[.pointer (some ⟨c1, 0, none⟩), .pointer (some ⟨c2, 0, none⟩)]] w fun e w' => e = .returned (.tuple #[]) ∧
      ∃ va', Rd br s (rAsks s p.kind (s.size + 1) n bad []).2.1 (rAsks s p.kind (s.size + 1) n bad []).2.2 w' ∧ PAt bp p va' vc w' ∧ w'.ownsRow B 60 2 va' (rAsks s p.kind (s.size + 1) n bad []).1.length (askCells (rAsks s p.kind (s.size + 1) n bad []).1) ∧ Kt B br bp 60 w w' := by
  generalize hRR : rAsks s p.kind (s.size + 1) n bad [] = R
  have hc1n : c1 ≠ br := fun e => by unfold Rd at hR; rw [e, hR] at hc1; simp at hc1
  have hc2n : c2 ≠ br := fun e => by unfold Rd at hR; rw [e, hR] at hc2; simp at hc2
  have hc1p : c1 ≠ bp := fun e => by unfold PAt at hP; rw [e, hP] at hc1; simp at hc1
  have hc2p : c2 ≠ bp := fun e => by unfold PAt at hP; rw [e, hP] at hc2; simp at hc2
  have HSS := hide hs
  unfold maxLen at hs
  have HRR := hide hRR
  have HC1 := hide hc1
  have HC2 := hide hc2
  have HST : Hid (Rd br s n bad w ∧ PAt bp p va vc w ∧ w.ownsRow B 60 2 va 0 []) := ⟨hR, hP, hO⟩
  clear hRR hc1 hc2 hR hP hO
  go_enter Tryd.func93, Tryd.ntmps93
  go_wp2
  go_loopg [4] (s.size + 1) (fun f _ wr => ∃ (m : Nat) (bd : Bool) (l : List (ByteArray × Int)) (v : Value), m ≤ s.size ∧ Hid (Rd br s m bd wr ∧ PAt bp p v vc wr ∧ wr.ownsRow B 60 2 v l.length (askCells l) ∧ l.length ≤ 6 ∧ Kt B br bp 60 w wr ∧ rAsks s p.kind f m bd l = R ∧ (bd = true ∨ s.size - m < f)))
  case atStart => exact ⟨n, bad, [], va, hn, HST.out.1, HST.out.2.1, HST.out.2.2, by simp, Kt.refl _ _ _ _ _, HRR.out, by omega⟩
  case round =>
    obtain ⟨m, bd, l, v, hm, HI⟩ := hrel
    obtain ⟨h0, h1, h2, h3, h4⟩ := HI.out.1.cells
    by_cases hgo : bd = false ∧ m < s.size
    · obtain ⟨hbd, hlt⟩ := hgo
      subst hbd
      have hk : 0 < gk := by have := HI.out.2.2.2.2.2.2; simp at this; omega
      obtain ⟨f, hf⟩ : ∃ f, gk = f + 1 := ⟨gk - 1, by omega⟩
      have HF := hide hf
      have HM : Hid (s.size - m < gk) := by have := HI.out.2.2.2.2.2.2; simp at this; exact this
      have HRF : Hid (rAsks s p.kind f (a1At s p.kind m) (a1Bad s p.kind m false) (addTo l (a1 s p.kind m)) = R) := by
        have := HI.out.2.2.2.2.2.1
        rw [hf, rAsks, if_pos ⟨rfl, hlt⟩] at this
        exact this
      have HW1 : Hid (wr.heap[c1]? = some (.cells #[.pointer (some ⟨br, 0, none⟩)] 83 (0, 0))) := HI.out.2.2.2.2.1.others c1 _ HC1.out hc1n hc1p (fun c fz e => by simp only [Obj.cells.injEq] at e; exact absurd e.2.1 (by decide))
      have HW2 : Hid (wr.heap[c2]? = some (.cells #[.pointer (some ⟨bp, 0, none⟩)] 104 (0, 0))) := HI.out.2.2.2.2.1.others c2 _ HC2.out hc2n hc2p (fun c fz e => by simp only [Obj.cells.injEq] at e; exact absurd e.2.1 (by decide))
      have hwr := HI.out.2.2.2.2.1.size
      have hlt' : (m : Int) < s.size := by omega
      clear hf hk
      go_wp2_with fail
      go_quiet (fail)
      go_wp2_with fail
      refine Calls.mono (asks1_any B br bp c1 c2 s m false p v vc l _ hB1 hB2 ?g1 hne ?g2 ?g3 ?g4 HSS.out hm ?g5 ?g6 ?g7) ?_
      case g1 => exact Nat.le_trans hB hwr
      case g2 => exact HW1.out
      case g3 => exact HW2.out
      case g4 => exact HI.out.1
      case g5 => exact HI.out.2.1
      case g6 => exact HI.out.2.2.1
      case g7 => exact HI.out.2.2.2.1
      rintro e w1 ⟨rfl, v', hr1, hp1, ho1, hk1⟩
      have HN : Hid (Rd br s (a1At s p.kind m) (a1Bad s p.kind m false) w1 ∧ PAt bp p v' vc w1 ∧ w1.ownsRow B 60 2 v' (addTo l (a1 s p.kind m)).length (askCells (addTo l (a1 s p.kind m))) ∧ (addTo l (a1 s p.kind m)).length ≤ 6 ∧ Kt B br bp 60 w w1 ∧ rAsks s p.kind f (a1At s p.kind m) (a1Bad s p.kind m false) (addTo l (a1 s p.kind m)) = R ∧ (a1Bad s p.kind m false = true ∨ s.size - a1At s p.kind m < f)) := by
        refine ⟨hr1, hp1, ho1, addTo_le HI.out.2.2.2.1, HI.out.2.2.2.2.1.trans ((Kt.of_drewN _ _ _ _ _ _).trans hk1), HRF.out, ?_⟩
        cases hb : a1Bad s p.kind m false with
        | true => exact .inl rfl
        | false => right; have h1 := a1_moves hb; have h2 := HM.out; have h3 := HF.out; omega
      have hml : a1At s p.kind m ≤ s.size := a1At_le hm
      clear hr1 hp1 ho1 hk1 h0 h1 h2 h3 h4
      go_wp2
      go_roundg f
      case measure => have := HF.out; omega
      case rel => exact ⟨_, _, _, v', hml, HN⟩
    · have HR : Hid (R = (l, m, bd)) := by
        have := HI.out.2.2.2.2.2.1
        cases gk with
        | zero => exact this.symm
        | succ f => rw [rAsks, if_neg hgo] at this; exact this.symm
      cases bd with
      | true =>
        clear hgo
        go_wp2_with fail
        go_quiet (fail)
        go_wp2
        go_end0
        exact ⟨rfl, v, by rw [HR.out]; exact HI.out.1, HI.out.2.1, by rw [HR.out]; exact HI.out.2.2.1, HI.out.2.2.2.2.1.trans ⟨rfl, rfl, rfl, Nat.le_refl _, fun _ _ => rfl, fun _ _ h _ _ _ => h⟩⟩
      | false =>
        have hge : (s.size : Int) ≤ m := by simp at hgo; omega
        have hge' : decide ((m : Int) < s.size) = false := by simp; omega
        clear hgo
        go_wp2_with fail
        go_quiet (fail)
        go_wp2
        go_end0
        exact ⟨rfl, v, by rw [HR.out]; exact HI.out.1, HI.out.2.1, by rw [HR.out]; exact HI.out.2.2.1, HI.out.2.2.2.2.1.trans ⟨rfl, rfl, rfl, Nat.le_refl _, fun _ _ => rfl, fun _ _ h _ _ _ => h⟩⟩

set_option maxHeartbeats 4000000 in
theorem whileCodes_any (B br bp c1 c2 : Nat) (s : ByteArray) (n : Nat) (bad : Bool) (p : Pk) (va vc : Value) (w : World)
    (hB1 : B ≤ br) (hB2 : B ≤ bp) (hB : B ≤ w.heap.size) (hne : bp ≠ br)
    (hc1 : w.heap[c1]? = some (.cells #[.pointer (some ⟨br, 0, none⟩)] 83 (0, 0))) (hc2 : w.heap[c2]? = some (.cells #[.pointer (some ⟨bp, 0, none⟩)] 104 (0, 0)))
    (hR : Rd br s n bad w) (hs : s.size ≤ maxLen) (hn : n ≤ s.size) (hP : PAt bp p va vc w) (hO : w.ownsRow B 3 1 vc 0 []) :
    Calls Tryd.prog 93 #[.pointer (some ⟨br, 0, none⟩), .func (.func 95) #[] #[.pointer (some ⟨c1, 0, none⟩), .pointer (some ⟨c2, 0, none⟩)]] w fun e w' => e = .returned (.tuple #[]) ∧
      ∃ vc', Rd br s (rCodes s (s.size + 1) n bad []).2.1 (rCodes s (s.size + 1) n bad []).2.2 w' ∧ PAt bp p va vc' w' ∧ w'.ownsRow B 3 1 vc' (rCodes s (s.size + 1) n bad []).1.length (intCells (rCodes s (s.size + 1) n bad []).1) ∧ Kt B br bp 3 w w' := by
  generalize hRR : rCodes s (s.size + 1) n bad [] = R
  have hc1n : c1 ≠ br := fun e => by unfold Rd at hR; rw [e, hR] at hc1; simp at hc1
  have hc2n : c2 ≠ br := fun e => by unfold Rd at hR; rw [e, hR] at hc2; simp at hc2
  have hc1p : c1 ≠ bp := fun e => by unfold PAt at hP; rw [e, hP] at hc1; simp at hc1
  have hc2p : c2 ≠ bp := fun e => by unfold PAt at hP; rw [e, hP] at hc2; simp at hc2
  have HSS := hide hs
  unfold maxLen at hs
  have HRR := hide hRR
  have HC1 := hide hc1
  have HC2 := hide hc2
  have HST : Hid (Rd br s n bad w ∧ PAt bp p va vc w ∧ w.ownsRow B 3 1 vc 0 []) := ⟨hR, hP, hO⟩
  clear hRR hc1 hc2 hR hP hO
  go_enter Tryd.func93, Tryd.ntmps93
  go_wp2
  go_loopg [4] (s.size + 1) (fun f _ wr => ∃ (m : Nat) (bd : Bool) (l : List Int) (v : Value), m ≤ s.size ∧ Hid (Rd br s m bd wr ∧ PAt bp p va v wr ∧ wr.ownsRow B 3 1 v l.length (intCells l) ∧ l.length ≤ 6 ∧ Kt B br bp 3 w wr ∧ rCodes s f m bd l = R ∧ (bd = true ∨ s.size - m < f)))
  case atStart => exact ⟨n, bad, [], vc, hn, HST.out.1, HST.out.2.1, HST.out.2.2, by simp, Kt.refl _ _ _ _ _, HRR.out, by omega⟩
  case round =>
    obtain ⟨m, bd, l, v, hm, HI⟩ := hrel
    obtain ⟨h0, h1, h2, h3, h4⟩ := HI.out.1.cells
    by_cases hgo : bd = false ∧ m < s.size
    · obtain ⟨hbd, hlt⟩ := hgo
      subst hbd
      have hk : 0 < gk := by have := HI.out.2.2.2.2.2.2; simp at this; omega
      obtain ⟨f, hf⟩ : ∃ f, gk = f + 1 := ⟨gk - 1, by omega⟩
      have HF := hide hf
      have HM : Hid (s.size - m < gk) := by have := HI.out.2.2.2.2.2.2; simp at this; exact this
      have HRF : Hid (rCodes s f (rnAt s m 1) (rnBad s m 1 false) (addTo l (getR s m (1 : Nat)).1) = R) := by
        have := HI.out.2.2.2.2.2.1
        rw [hf, rCodes, if_pos ⟨rfl, hlt⟩] at this
        exact this
      have HW1 : Hid (wr.heap[c1]? = some (.cells #[.pointer (some ⟨br, 0, none⟩)] 83 (0, 0))) := HI.out.2.2.2.2.1.others c1 _ HC1.out hc1n hc1p (fun c fz e => by simp only [Obj.cells.injEq] at e; exact absurd e.2.1 (by decide))
      have HW2 : Hid (wr.heap[c2]? = some (.cells #[.pointer (some ⟨bp, 0, none⟩)] 104 (0, 0))) := HI.out.2.2.2.2.1.others c2 _ HC2.out hc2n hc2p (fun c fz e => by simp only [Obj.cells.injEq] at e; exact absurd e.2.1 (by decide))
      have hwr := HI.out.2.2.2.2.1.size
      have hlt' : (m : Int) < s.size := by omega
      clear hf hk
      go_wp2_with fail
      go_quiet (fail)
      go_wp2_with fail
      refine Calls.mono (codes1_any B br bp c1 c2 s m false p va v l _ hB1 hB2 ?g1 hne ?g2 ?g3 ?g4 HSS.out hm ?g5 ?g6 ?g7) ?_
      case g1 => exact Nat.le_trans hB hwr
      case g2 => exact HW1.out
      case g3 => exact HW2.out
      case g4 => exact HI.out.1
      case g5 => exact HI.out.2.1
      case g6 => exact HI.out.2.2.1
      case g7 => exact HI.out.2.2.2.1
      rintro e w1 ⟨rfl, v', hr1, hp1, ho1, hk1⟩
      have HN : Hid (Rd br s (rnAt s m 1) (rnBad s m 1 false) w1 ∧ PAt bp p va v' w1 ∧ w1.ownsRow B 3 1 v' (addTo l (getR s m (1 : Nat)).1).length (intCells (addTo l (getR s m (1 : Nat)).1)) ∧ (addTo l (getR s m (1 : Nat)).1).length ≤ 6 ∧ Kt B br bp 3 w w1 ∧ rCodes s f (rnAt s m 1) (rnBad s m 1 false) (addTo l (getR s m (1 : Nat)).1) = R ∧ (rnBad s m 1 false = true ∨ s.size - rnAt s m 1 < f)) := by
        refine ⟨hr1, hp1, ho1, addTo_le HI.out.2.2.2.1, HI.out.2.2.2.2.1.trans ((Kt.of_drewN _ _ _ _ _ _).trans hk1), HRF.out, ?_⟩
        cases hb : rnBad s m 1 false with
        | true => exact .inl rfl
        | false => right; have h1 := rn_moves hb; have h2 := HM.out; have h3 := HF.out; omega
      have hml : rnAt s m 1 ≤ s.size := rnAt_le hm
      clear hr1 hp1 ho1 hk1 h0 h1 h2 h3 h4
      go_wp2
      go_roundg f
      case measure => have := HF.out; omega
      case rel => exact ⟨_, _, _, v', hml, HN⟩
    · have HR : Hid (R = (l, m, bd)) := by
        have := HI.out.2.2.2.2.2.1
        cases gk with
        | zero => exact this.symm
        | succ f => rw [rCodes, if_neg hgo] at this; exact this.symm
      cases bd with
      | true =>
        clear hgo
        go_wp2_with fail
        go_quiet (fail)
        go_wp2
        go_end0
        exact ⟨rfl, v, by rw [HR.out]; exact HI.out.1, HI.out.2.1, by rw [HR.out]; exact HI.out.2.2.1, HI.out.2.2.2.2.1.trans ⟨rfl, rfl, rfl, Nat.le_refl _, fun _ _ => rfl, fun _ _ h _ _ _ => h⟩⟩
      | false =>
        have hge : (s.size : Int) ≤ m := by simp at hgo; omega
        have hge' : decide ((m : Int) < s.size) = false := by simp; omega
        clear hgo
        go_wp2_with fail
        go_quiet (fail)
        go_wp2
        go_end0
        exact ⟨rfl, v, by rw [HR.out]; exact HI.out.1, HI.out.2.1, by rw [HR.out]; exact HI.out.2.2.1, HI.out.2.2.2.2.1.trans ⟨rfl, rfl, rfl, Nat.le_refl _, fun _ _ => rfl, fun _ _ h _ _ _ => h⟩⟩


theorem heap2 (w : World) (o1 o2 : Obj) : ((w.alloc o1).alloc o2).heap[w.heap.size]? = some o1 ∧ ((w.alloc o1).alloc o2).heap[w.heap.size + 1]? = some o2 := by
  constructor
  · rw [Below.heap_alloc _ _ _ (by simp)]; exact Go.heap_alloc_new w o1
  · have := Go.heap_alloc_new (w.alloc o1) o2
    simpa using this

set_option maxHeartbeats 4000000 in
theorem rasks_any (B br bp : Nat) (s : ByteArray) (n : Nat) (bad : Bool) (p : Pk) (va vc : Value) (w : World)
    (hB1 : B ≤ br) (hB2 : B ≤ bp) (hB : B ≤ w.heap.size) (hne : bp ≠ br)
    (hR : Rd br s n bad w) (hs : s.size ≤ maxLen) (hn : n ≤ s.size) (hP : PAt bp p va vc w) (hO : w.ownsRow B 60 2 va 0 []) :
    Calls Tryd.prog 88 #[.pointer (some ⟨br, 0, none⟩), .pointer (some ⟨bp, 0, none⟩)] w fun e w' => e = .returned (.tuple #[]) ∧
      ∃ va', Rd br s (rAsks s p.kind (s.size + 1) n bad []).2.1 (rAsks s p.kind (s.size + 1) n bad []).2.2 w' ∧ PAt bp p va' vc w' ∧ w'.ownsRow B 60 2 va' (rAsks s p.kind (s.size + 1) n bad []).1.length (askCells (rAsks s p.kind (s.size + 1) n bad []).1) ∧ Kt B br bp 60 w w' := by
  have hbl : Below w.heap.size w ((w.alloc (.cells #[.pointer (some ⟨br, 0, none⟩)] 83)).alloc (.cells #[.pointer (some ⟨bp, 0, none⟩)] 104)) := ((Below.refl _ _).alloc (Nat.le_refl _) _).alloc (by simp) _
  have h2 := heap2 w (.cells #[.pointer (some ⟨br, 0, none⟩)] 83) (.cells #[.pointer (some ⟨bp, 0, none⟩)] 104)
  have hsz : B ≤ ((w.alloc (.cells #[.pointer (some ⟨br, 0, none⟩)] 83)).alloc (.cells #[.pointer (some ⟨bp, 0, none⟩)] 104)).heap.size := Nat.le_trans hB hbl.size
  have HC := hide (whileAsks_any B br bp w.heap.size (w.heap.size + 1) s n bad p va vc _ hB1 hB2 hsz hne h2.1 h2.2 (hR.below hbl) hs hn (by have := hP.lt; unfold PAt at *; rw [hbl.block bp this]; exact hP) (own_kept hO fun g hg => hbl.block g (own_lt hO g hg).2))
  have HK : Hid (Kt B br bp 60 w ((w.alloc (.cells #[.pointer (some ⟨br, 0, none⟩)] 83)).alloc (.cells #[.pointer (some ⟨bp, 0, none⟩)] 104))) := Kt.of_kx (Kx.of_below hbl) hB1 hB2 hB
  clear hbl h2 hsz hR hP hO
  go_enter Tryd.func88, Tryd.ntmps88
  go_wp2_with fail
  refine HC.out.mono ?_
  rintro e w1 ⟨rfl, va', h1, h2, h3, h4⟩
  have HF := hide (And.intro h1 (And.intro h2 (And.intro h3 (HK.out.trans h4))))
  clear h1 h2 h3 h4
  go_wp2
  go_end0
  exact ⟨rfl, va', HF.out⟩

set_option maxHeartbeats 4000000 in
theorem rcodes_any (B br bp : Nat) (s : ByteArray) (n : Nat) (bad : Bool) (p : Pk) (va vc : Value) (w : World)
    (hB1 : B ≤ br) (hB2 : B ≤ bp) (hB : B ≤ w.heap.size) (hne : bp ≠ br)
    (hR : Rd br s n bad w) (hs : s.size ≤ maxLen) (hn : n ≤ s.size) (hP : PAt bp p va vc w) (hO : w.ownsRow B 3 1 vc 0 []) :
    Calls Tryd.prog 89 #[.pointer (some ⟨br, 0, none⟩), .pointer (some ⟨bp, 0, none⟩)] w fun e w' => e = .returned (.tuple #[]) ∧
      ∃ vc', Rd br s (rCodes s (s.size + 1) n bad []).2.1 (rCodes s (s.size + 1) n bad []).2.2 w' ∧ PAt bp p va vc' w' ∧ w'.ownsRow B 3 1 vc' (rCodes s (s.size + 1) n bad []).1.length (intCells (rCodes s (s.size + 1) n bad []).1) ∧ Kt B br bp 3 w w' := by
  have hbl : Below w.heap.size w ((w.alloc (.cells #[.pointer (some ⟨br, 0, none⟩)] 83)).alloc (.cells #[.pointer (some ⟨bp, 0, none⟩)] 104)) := ((Below.refl _ _).alloc (Nat.le_refl _) _).alloc (by simp) _
  have h2 := heap2 w (.cells #[.pointer (some ⟨br, 0, none⟩)] 83) (.cells #[.pointer (some ⟨bp, 0, none⟩)] 104)
  have hsz : B ≤ ((w.alloc (.cells #[.pointer (some ⟨br, 0, none⟩)] 83)).alloc (.cells #[.pointer (some ⟨bp, 0, none⟩)] 104)).heap.size := Nat.le_trans hB hbl.size
  have HC := hide (whileCodes_any B br bp w.heap.size (w.heap.size + 1) s n bad p va vc _ hB1 hB2 hsz hne h2.1 h2.2 (hR.below hbl) hs hn (by have := hP.lt; unfold PAt at *; rw [hbl.block bp this]; exact hP) (own_kept hO fun g hg => hbl.block g (own_lt hO g hg).2))
  have HK : Hid (Kt B br bp 3 w ((w.alloc (.cells #[.pointer (some ⟨br, 0, none⟩)] 83)).alloc (.cells #[.pointer (some ⟨bp, 0, none⟩)] 104))) := Kt.of_kx (Kx.of_below hbl) hB1 hB2 hB
  clear hbl h2 hsz hR hP hO
  go_enter Tryd.func89, Tryd.ntmps89
  go_wp2_with fail
  refine HC.out.mono ?_
  rintro e w1 ⟨rfl, va', h1, h2, h3, h4⟩
  have HF := hide (And.intro h1 (And.intro h2 (And.intro h3 (HK.out.trans h4))))
  clear h1 h2 h3 h4
  go_wp2
  go_end0
  exact ⟨rfl, va', HF.out⟩
end Go.Proofs.YtgmjdelgocbcaabDoor
