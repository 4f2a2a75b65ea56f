/-
  packet.reader's codes: the function literal that reads one code.
-/
import Derived.Test.YtnjdpibgfbbkcabGreatDoorReaderAsks
import Derived.Deep.LoopGhost
namespace Go.Proofs.YtnjdpibgfbbkcabGreatDoor
open Go.RowKit Go.PlainAid Go.Deep

def intCells (l : List Int) : List Value := l.map (Value.int .i64)

set_option maxHeartbeats 4000000 in
theorem codes1_any (B br bp c1 c2 : Nat) (s : ByteArray) (n : Nat) (bad : Bool) (p : Pk) (va vc : Value) (l : List Int) (w : World)
    (hB1 : B ≤ br) (hB2 : B ≤ bp) (hB : B ≤ w.heap.size) (hne : bp ≠ br)
    (hc1 : w.heap[c1]? = some (.cells #[.pointer (some ⟨br, 0, none⟩)] 76 (0, 0))) (hc2 : w.heap[c2]? = some (.cells #[.pointer (some ⟨bp, 0, none⟩)] 97 (0, 0)))
    (hR : Rd br s n bad w) (hs : s.size ≤ maxLen) (hn : n ≤ s.size) (hP : PAt bp p va vc w) (hO : w.ownsRow B 3 1 vc l.length (intCells l)) (hl : l.length ≤ 6) :
    Calls Tryz.prog 92 #[.pointer (some ⟨c1, 0, none⟩), .pointer (some ⟨c2, 0, none⟩)] w fun e w' => e = .returned (.tuple #[]) ∧
      ∃ vc', Rd br s (rnAt s n 1) (rnBad s n 1 bad) w' ∧ PAt bp p va vc' w' ∧ w'.ownsRow B 3 1 vc' (addTo l (getR s n (1 : Nat)).1).length (intCells (addTo l (getR s n (1 : Nat)).1)) ∧ Kt B br bp 3 w w' := by
  have hc1n : c1 ≠ br := fun e => by unfold Rd at hR; rw [e, hR] at hc1; simp at hc1
  have hc2n : c2 ≠ br := fun e => by unfold Rd at hR; rw [e, hR] at hc2; simp at hc2
  have d1 : w.cell? ⟨c1, 0, none⟩ = some (.pointer (some ⟨br, 0, none⟩)) := by rw [Lib.cell_of_heap hc1]; rfl
  obtain ⟨ao, cap, rfl⟩ := own_form hO
  have HS := hide hs
  have HR := hide hR
  have HP := hide hP
  have HO := hide hO
  have HC2 := hide hc2
  have hl2 := (Array.getElem?_eq_some_iff.1 hc2).1
  have hbp := hP.lt
  have hbr := hR.lt
  clear hs hR hP hO hc1 hc2
  obtain ⟨i0, hi, hz0, hz1, hz2⟩ := info_parts (show (Tryz.prog.info? 3).map (fun i => (i.zero, i.size, i.bytes)) = some (some (.int .i64 0), 1, 8) by kernel_rfl)
  have HG : Hid (∀ W, Rd br s n bad W → Calls Tryz.prog 68 #[.pointer (some ⟨br, 0, none⟩), .int .i64 1] W fun e w' => e = .returned (.int .i64 (getR s n (1 : Nat)).1) ∧ Rd br s (rnAt s n 1) (rnBad s n 1 bad) w' ∧ Kx br br W w') := fun W h => rnumber_any br s n 1 bad W HS.out hn h
  revert HG
  generalize (getR s n (1 : Nat)).1 = Q
  intro HG
  go_enter Tryz.func92, Tryz.ntmps92
  go_wp2_with fail
  refine (HG.out _ HR.out).mono ?_
  rintro e W ⟨rfl, hr1, hk1⟩
  have HR3 := hide hr1
  have HP3 := hide (HP.out.kx hk1 hne)
  have hs1 := hk1.size
  have HO3 : Hid (W.ownsRow B 3 1 (.slice ao l.length cap) l.length (intCells l)) := own_kept HO.out fun g hg => hk1.block g (own_lt HO.out g hg).2 (fun e => own_ne HO.out HR.out (by decide) (by rw [hg, e])) (fun e => own_ne HO.out HR.out (by decide) (by rw [hg, e]))
  have e2 : W.cell? ⟨c2, 0, none⟩ = some (.pointer (some ⟨bp, 0, none⟩)) := by rw [Lib.cell_of_heap ((hk1.block c2 hl2 hc2n hc2n).trans HC2.out)]; rfl
  have HK3 : Hid (Kt B br bp 3 w W) := Kt.of_kx (Kx.of_one hk1) hB1 hB2 hB
  clear hr1 hk1 d1
  have hbp3 := HP3.out.lt
  have hbr3 := HR3.out.lt
  have hB3 : B ≤ W.heap.size := by omega
  have hc23 : c2 < W.heap.size := by omega
  have e12 : W.cell? ⟨bp, 13, none⟩ = some (.slice ao l.length cap) := HP3.out.cell 13
  have f12 : W.frozen? ⟨bp, 13, none⟩ = false := HP3.out.frozen 13
  by_cases h5 : l.length ≤ 5
  · have h5' : (l.length : Int) ≤ 5 := by omega
    have HAD : Hid (addTo l Q = l ++ [Q]) := by show _ = _; unfold addTo; rw [if_pos h5]
    have H63 : Hid (l.length + 1 ≤ maxLen) := by show _ ≤ _; unfold maxLen; omega
    have H47 : Hid ((l.length + 1) * 8 ≤ 140737488355328) := by show _ ≤ _; omega
    have HNP : Hid ((Value.slice ao l.length cap).ownBlock ≠ some bp) := own_ne HO3.out HP3.out (by decide)
    have HNR : Hid ((Value.slice ao l.length cap).ownBlock ≠ some br) := own_ne HO3.out HR3.out (by decide)
    have HNC : Hid ((Value.slice ao l.length cap).ownBlock ≠ some c2) := own_ne HO.out HC2.out (by decide)
    have HC12 : Hid ((W.drew.alloc (.cells #[.int .i64 Q] 3)).cell? ⟨bp, 13, none⟩ = some (.slice ao l.length cap)) := (World.cell?_alloc_old _ _ _ (by show bp ≠ W.heap.size; omega)).trans e12
    have HF12 : Hid ((W.drew.alloc (.cells #[.int .i64 Q] 3)).frozen? ⟨bp, 13, none⟩ = false) := (World.frozen?_alloc_old _ _ _ (by show bp ≠ W.heap.size; omega)).trans f12
    have HC20 : Hid ((W.drew.alloc (.cells #[.int .i64 Q] 3)).cell? ⟨c2, 0, none⟩ = some (.pointer (some ⟨bp, 0, none⟩))) := (World.cell?_alloc_old _ _ _ (by show c2 ≠ W.heap.size; omega)).trans e2
    go_wp2_with fail
    go_region_law (refine step_append_lies _ rfl (.tmp 15) (.tmp 17) 33 rfl B 3 i0 (.int .i64 0) 1 8 Tryz.underlying33 hi hz0 hz1 hz2 rfl (by decide) (.slice ao l.length cap) l.length (intCells l) (by simp [Act.eval]) (World.ownsRow.alloc (w := W.drew) HO3.out _) ⟨W.heap.size, 0, none⟩ 1 1 [.int .i64 Q] (by simp [Act.eval]) rfl (World.news_of_block (w := W.drew.alloc _) (B := W.heap.size) (Go.heap_alloc_new W.drew _)) (by simp [Value.oneCell']) (by decide) H63.out H47.out (by simp; omega) (W.heap.size + 1) (by simp) ?_; intro g cap' w4 hown4 hgrow4 hat4 hlt4; have k1 : w4.cell? ⟨bp, 13, none⟩ = some (.slice ao l.length cap) := (hgrow4.cell_far ⟨bp, 13, none⟩ (by simp; omega) (fun e => HNP.out e.symm)).trans HC12.out; have k2 : w4.frozen? ⟨bp, 13, none⟩ = false := (hgrow4.frozen_far ⟨bp, 13, none⟩ (by simp; omega) (fun e => HNP.out e.symm)).trans HF12.out; have k3 : w4.cell? ⟨c2, 0, none⟩ = some (.pointer (some ⟨bp, 0, none⟩)) := (hgrow4.cell_far ⟨c2, 0, none⟩ (by simp; omega) (fun e => HNC.out e.symm)).trans HC20.out)
    all_goals
      go_wp2
      go_end0
      have hgp : g ≠ bp := by
        rcases hat4 with hat4 | hat4
        · intro e; subst e; exact HNP.out hat4
        · omega
      refine ⟨rfl, .slice (some ⟨g, 0, none⟩) (l.length + 1) cap', ?_, ?_, ?_, ?_⟩
      · show _ = _
        rw [Below.heap_setCell _ _ _ _ (fun e => hne e.symm), grow_block hgrow4 hbr3 HNR.out]
        exact HR3.out
      · refine PAt.set13 (vc := .slice ao l.length cap) ?_ _
        show _ = _
        rw [grow_block hgrow4 hbp3 HNP.out]
        exact HP3.out
      · rw [HAD.out, List.length_append, intCells, List.map_append]
        exact own_kept hown4 fun k hk => Below.heap_setCell _ _ _ _ (by simp only [Value.ownBlock, Option.some.injEq] at hk; subst hk; exact hgp)
      · exact (HK3.out.trans (grow_kt hgrow4 HO3.out hB3)).trans (Kt.of_kx (Kx.set2 _ _ _ _ _) hB1 hB2 (by have := hgrow4.size; simp at this; omega))
  · have h5' : decide ((l.length : Int) ≤ 5) = false := by simp; omega
    have HAD : Hid (addTo l Q = l) := by show _ = _; unfold addTo; rw [if_neg h5]
    go_wp2
    go_end0
    exact ⟨rfl, _, HR3.out, HP3.out, by rw [HAD.out]; exact HO3.out, HK3.out⟩
end Go.Proofs.YtnjdpibgfbbkcabGreatDoor
/-
  packet.reader's whileLeft, asks and codes: what they read.
-/
namespace Go.Proofs.YtnjdpibgfbbkcabGreatDoor
open Go.RowKit Go.PlainAid Go.Deep

/-- asks while there are bytes: so many at the most -/
def rAsks (s : ByteArray) (kind : Int) : Nat → Nat → Bool → List (ByteArray × Int) → List (ByteArray × Int) × Nat × Bool
  | 0, n, bad, l => (l, n, bad)
  | f + 1, n, bad, l => if bad = false ∧ n < s.size then rAsks s kind f (a1At s kind n) (a1Bad s kind n bad) (addTo l (a1 s kind n)) else (l, n, bad)
def rCodes (s : ByteArray) : Nat → Nat → Bool → List Int → List Int × Nat × Bool
  | 0, n, bad, l => (l, n, bad)
  | f + 1, n, bad, l => if bad = false ∧ n < s.size then rCodes s f (rnAt s n 1) (rnBad s n 1 bad) (addTo l (getR s n (1 : Nat)).1) else (l, n, bad)

theorem Kt.of_drewN (B a b : Nat) (T : TypeId) (w : World) (n : Nat) : Kt B a b T w (w.drewN n) := ⟨rfl, rfl, rfl, Nat.le_refl _, fun _ _ => rfl, fun _ _ h _ _ _ => h⟩
theorem addTo_le {α : Type} {l : List α} {x : α} (h : l.length ≤ 6) : (addTo l x).length ≤ 6 := by
  unfold addTo; split
  · simp; omega
  · exact h
theorem rnAt_ge (s : ByteArray) (n k : Nat) : n ≤ rnAt s n k := by unfold rnAt; split <;> omega
theorem rt_moves {s : ByteArray} {n : Nat} {bad : Bool} (h : rtBad s n bad = false) : n + 2 ≤ rtAt s n := by
  unfold rtBad at h
  simp only [Bool.or_eq_false_iff, Bool.not_eq_false', beq_iff_eq] at h
  have h2 := h.2
  unfold rtAt
  unfold gtR at h2 ⊢
  split at h2
  · simp at h2
  · split at h2
    · simp at h2
    · split at h2
      · simp at h2
      · rename_i g1 g2 g3
        rw [if_neg g1, if_neg g2, if_neg g3]
        simp only
        omega
theorem a1At_le {s : ByteArray} {kind : Int} {n : Nat} (hn : n ≤ s.size) : a1At s kind n ≤ s.size := by
  unfold a1At; split
  · exact rnAt_le (rtAt_le hn)
  · exact rtAt_le hn
theorem a1_moves {s : ByteArray} {kind : Int} {n : Nat} {bad : Bool} (h : a1Bad s kind n bad = false) : n < a1At s kind n := by
  unfold a1Bad at h
  unfold a1At
  split at h
  · rename_i hk
    rw [if_pos hk]
    have h1 : rtBad s n bad = false := by unfold rnBad at h; simp only [Bool.or_eq_false_iff] at h; exact h.1
    have := rt_moves h1
    have := rnAt_ge s (rtAt s n) 1
    omega
  · rename_i hk
    rw [if_neg hk]
    have := rt_moves h
    omega
theorem rn_moves {s : ByteArray} {n : Nat} {bad : Bool} (h : rnBad s n 1 bad = false) : n < rnAt s n 1 := by
  unfold rnBad at h
  simp only [Bool.or_eq_false_iff, Bool.not_eq_false', beq_iff_eq] at h
  unfold rnAt
  rw [if_pos h.2]
  omega

set_option maxHeartbeats 4000000 in
theorem whileAsks_any (B br bp c1 c2 : Nat) (s : ByteArray) (n : Nat) (bad : Bool) (p : Pk) (va vc : Value) (w : World)
    (hB1 : B ≤ br) (hB2 : B ≤ bp) (hB : B ≤ w.heap.size) (hne : bp ≠ br)
    (hc1 : w.heap[c1]? = some (.cells #[.pointer (some ⟨br, 0, none⟩)] 76 (0, 0))) (hc2 : w.heap[c2]? = some (.cells #[.pointer (some ⟨bp, 0, none⟩)] 97 (0, 0)))
    (hR : Rd br s n bad w) (hs : s.size ≤ maxLen) (hn : n ≤ s.size) (hP : PAt bp p va vc w) (hO : w.ownsRow B 56 2 va 0 []) :
    Calls Tryz.prog 90 #[.pointer (some ⟨br, 0, none⟩), .func (.func 91) #[] #[.pointer (some ⟨c1, 0, none⟩), .pointer (some ⟨c2, 0, none⟩)]] w fun e w' => e = .returned (.tuple #[]) ∧
      ∃ va', Rd br s (rAsks s p.kind (s.size + 1) n bad []).2.1 (rAsks s p.kind (s.size + 1) n bad []).2.2 w' ∧ PAt bp p va' vc w' ∧ w'.ownsRow B 56 2 va' (rAsks s p.kind (s.size + 1) n bad []).1.length (askCells (rAsks s p.kind (s.size + 1) n bad []).1) ∧ Kt B br bp 56 w w' := by
  generalize hRR : rAsks s p.kind (s.size + 1) n bad [] = R
  have hc1n : c1 ≠ br := fun e => by unfold Rd at hR; rw [e, hR] at hc1; simp at hc1
  have hc2n : c2 ≠ br := fun e => by unfold Rd at hR; rw [e, hR] at hc2; simp at hc2
  have hc1p : c1 ≠ bp := fun e => by unfold PAt at hP; rw [e, hP] at hc1; simp at hc1
  have hc2p : c2 ≠ bp := fun e => by unfold PAt at hP; rw [e, hP] at hc2; simp at hc2
  have HSS := hide hs
  unfold maxLen at hs
  have HRR := hide hRR
  have HC1 := hide hc1
  have HC2 := hide hc2
  have HST : Hid (Rd br s n bad w ∧ PAt bp p va vc w ∧ w.ownsRow B 56 2 va 0 []) := ⟨hR, hP, hO⟩
  clear hRR hc1 hc2 hR hP hO
  go_enter Tryz.func90, Tryz.ntmps90
  go_wp2
  go_loopg [4] (s.size + 1) (fun f _ wr => ∃ (m : Nat) (bd : Bool) (l : List (ByteArray × Int)) (v : Value), m ≤ s.size ∧ Hid (Rd br s m bd wr ∧ PAt bp p v vc wr ∧ wr.ownsRow B 56 2 v l.length (askCells l) ∧ l.length ≤ 6 ∧ Kt B br bp 56 w wr ∧ rAsks s p.kind f m bd l = R ∧ (bd = true ∨ s.size - m < f)))
  case atStart => exact ⟨n, bad, [], va, hn, HST.out.1, HST.out.2.1, HST.out.2.2, by simp, Kt.refl _ _ _ _ _, HRR.out, by omega⟩
  case round =>
    obtain ⟨m, bd, l, v, hm, HI⟩ := hrel
    obtain ⟨h0, h1, h2, h3, h4⟩ := HI.out.1.cells
    by_cases hgo : bd = false ∧ m < s.size
    · obtain ⟨hbd, hlt⟩ := hgo
      subst hbd
      have hk : 0 < gk := by have := HI.out.2.2.2.2.2.2; simp at this; omega
      obtain ⟨f, hf⟩ : ∃ f, gk = f + 1 := ⟨gk - 1, by omega⟩
      have HF := hide hf
      have HM : Hid (s.size - m < gk) := by have := HI.out.2.2.2.2.2.2; simp at this; exact this
      have HRF : Hid (rAsks s p.kind f (a1At s p.kind m) (a1Bad s p.kind m false) (addTo l (a1 s p.kind m)) = R) := by
        have := HI.out.2.2.2.2.2.1
        rw [hf, rAsks, if_pos ⟨rfl, hlt⟩] at this
        exact this
      have HW1 : Hid (wr.heap[c1]? = some (.cells #[.pointer (some ⟨br, 0, none⟩)] 76 (0, 0))) := HI.out.2.2.2.2.1.others c1 _ HC1.out hc1n hc1p (fun c fz e => by simp only [Obj.cells.injEq] at e; exact absurd e.2.1 (by decide))
      have HW2 : Hid (wr.heap[c2]? = some (.cells #[.pointer (some ⟨bp, 0, none⟩)] 97 (0, 0))) := HI.out.2.2.2.2.1.others c2 _ HC2.out hc2n hc2p (fun c fz e => by simp only [Obj.cells.injEq] at e; exact absurd e.2.1 (by decide))
      have hwr := HI.out.2.2.2.2.1.size
      have hlt' : (m : Int) < s.size := by omega
      clear hf hk
      go_wp2_with fail
      go_quiet (fail)
      go_wp2_with fail
      refine Calls.mono (asks1_any B br bp c1 c2 s m false p v vc l _ hB1 hB2 ?g1 hne ?g2 ?g3 ?g4 HSS.out hm ?g5 ?g6 ?g7) ?_
      case g1 => exact Nat.le_trans hB hwr
      case g2 => exact HW1.out
      case g3 => exact HW2.out
      case g4 => exact HI.out.1
      case g5 => exact HI.out.2.1
      case g6 => exact HI.out.2.2.1
      case g7 => exact HI.out.2.2.2.1
      rintro e w1 ⟨rfl, v', hr1, hp1, ho1, hk1⟩
      have HN : Hid (Rd br s (a1At s p.kind m) (a1Bad s p.kind m false) w1 ∧ PAt bp p v' vc w1 ∧ w1.ownsRow B 56 2 v' (addTo l (a1 s p.kind m)).length (askCells (addTo l (a1 s p.kind m))) ∧ (addTo l (a1 s p.kind m)).length ≤ 6 ∧ Kt B br bp 56 w w1 ∧ rAsks s p.kind f (a1At s p.kind m) (a1Bad s p.kind m false) (addTo l (a1 s p.kind m)) = R ∧ (a1Bad s p.kind m false = true ∨ s.size - a1At s p.kind m < f)) := by
        refine ⟨hr1, hp1, ho1, addTo_le HI.out.2.2.2.1, HI.out.2.2.2.2.1.trans ((Kt.of_drewN _ _ _ _ _ _).trans hk1), HRF.out, ?_⟩
        cases hb : a1Bad s p.kind m false with
        | true => exact .inl rfl
        | false => right; have h1 := a1_moves hb; have h2 := HM.out; have h3 := HF.out; omega
      have hml : a1At s p.kind m ≤ s.size := a1At_le hm
      clear hr1 hp1 ho1 hk1 h0 h1 h2 h3 h4
      go_wp2
      go_roundg f
      case measure => have := HF.out; omega
      case rel => exact ⟨_, _, _, v', hml, HN⟩
    · have HR : Hid (R = (l, m, bd)) := by
        have := HI.out.2.2.2.2.2.1
        cases gk with
        | zero => exact this.symm
        | succ f => rw [rAsks, if_neg hgo] at this; exact this.symm
      cases bd with
      | true =>
        clear hgo
        go_wp2_with fail
        go_quiet (fail)
        go_wp2
        go_end0
        exact ⟨rfl, v, by rw [HR.out]; exact HI.out.1, HI.out.2.1, by rw [HR.out]; exact HI.out.2.2.1, HI.out.2.2.2.2.1.trans ⟨rfl, rfl, rfl, Nat.le_refl _, fun _ _ => rfl, fun _ _ h _ _ _ => h⟩⟩
      | false =>
        have hge : (s.size : Int) ≤ m := by simp at hgo; omega
        have hge' : decide ((m : Int) < s.size) = false := by simp; omega
        clear hgo
        go_wp2_with fail
        go_quiet (fail)
        go_wp2
        go_end0
        exact ⟨rfl, v, by rw [HR.out]; exact HI.out.1, HI.out.2.1, by rw [HR.out]; exact HI.out.2.2.1, HI.out.2.2.2.2.1.trans ⟨rfl, rfl, rfl, Nat.le_refl _, fun _ _ => rfl, fun _ _ h _ _ _ => h⟩⟩

set_option maxHeartbeats 4000000 in
theorem whileCodes_any (B br bp c1 c2 : Nat) (s : ByteArray) (n : Nat) (bad : Bool) (p : Pk) (va vc : Value) (w : World)
    (hB1 : B ≤ br) (hB2 : B ≤ bp) (hB : B ≤ w.heap.size) (hne : bp ≠ br)
    (hc1 : w.heap[c1]? = some (.cells #[.pointer (some ⟨br, 0, none⟩)] 76 (0, 0))) (hc2 : w.heap[c2]? = some (.cells #[.pointer (some ⟨bp, 0, none⟩)] 97 (0, 0)))
    (hR : Rd br s n bad w) (hs : s.size ≤ maxLen) (hn : n ≤ s.size) (hP : PAt bp p va vc w) (hO : w.ownsRow B 3 1 vc 0 []) :
    Calls Tryz.prog 90 #[.pointer (some ⟨br, 0, none⟩), .func (.func 92) #[] #[.pointer (some ⟨c1, 0, none⟩), .pointer (some ⟨c2, 0, none⟩)]] w fun e w' => e = .returned (.tuple #[]) ∧
      ∃ vc', Rd br s (rCodes s (s.size + 1) n bad []).2.1 (rCodes s (s.size + 1) n bad []).2.2 w' ∧ PAt bp p va vc' w' ∧ w'.ownsRow B 3 1 vc' (rCodes s (s.size + 1) n bad []).1.length (intCells (rCodes s (s.size + 1) n bad []).1) ∧ Kt B br bp 3 w w' := by
  generalize hRR : rCodes s (s.size + 1) n bad [] = R
  have hc1n : c1 ≠ br := fun e => by unfold Rd at hR; rw [e, hR] at hc1; simp at hc1
  have hc2n : c2 ≠ br := fun e => by unfold Rd at hR; rw [e, hR] at hc2; simp at hc2
  have hc1p : c1 ≠ bp := fun e => by unfold PAt at hP; rw [e, hP] at hc1; simp at hc1
  have hc2p : c2 ≠ bp := fun e => by unfold PAt at hP; rw [e, hP] at hc2; simp at hc2
  have HSS := hide hs
  unfold maxLen at hs
  have HRR := hide hRR
  have HC1 := hide hc1
  have HC2 := hide hc2
  have HST : Hid (Rd br s n bad w ∧ PAt bp p va vc w ∧ w.ownsRow B 3 1 vc 0 []) := ⟨hR, hP, hO⟩
  clear hRR hc1 hc2 hR hP hO
  go_enter Tryz.func90, Tryz.ntmps90
  go_wp2
  go_loopg [4] (s.size + 1) (fun f _ wr => ∃ (m : Nat) (bd : Bool) (l : List Int) (v : Value), m ≤ s.size ∧ Hid (Rd br s m bd wr ∧ PAt bp p va v wr ∧ wr.ownsRow B 3 1 v l.length (intCells l) ∧ l.length ≤ 6 ∧ Kt B br bp 3 w wr ∧ rCodes s f m bd l = R ∧ (bd = true ∨ s.size - m < f)))
  case atStart => exact ⟨n, bad, [], vc, hn, HST.out.1, HST.out.2.1, HST.out.2.2, by simp, Kt.refl _ _ _ _ _, HRR.out, by omega⟩
  case round =>
    obtain ⟨m, bd, l, v, hm, HI⟩ := hrel
    obtain ⟨h0, h1, h2, h3, h4⟩ := HI.out.1.cells
    by_cases hgo : bd = false ∧ m < s.size
    · obtain ⟨hbd, hlt⟩ := hgo
      subst hbd
      have hk : 0 < gk := by have := HI.out.2.2.2.2.2.2; simp at this; omega
      obtain ⟨f, hf⟩ : ∃ f, gk = f + 1 := ⟨gk - 1, by omega⟩
      have HF := hide hf
      have HM : Hid (s.size - m < gk) := by have := HI.out.2.2.2.2.2.2; simp at this; exact this
      have HRF : Hid (rCodes s f (rnAt s m 1) (rnBad s m 1 false) (addTo l (getR s m (1 : Nat)).1) = R) := by
        have := HI.out.2.2.2.2.2.1
        rw [hf, rCodes, if_pos ⟨rfl, hlt⟩] at this
        exact this
      have HW1 : Hid (wr.heap[c1]? = some (.cells #[.pointer (some ⟨br, 0, none⟩)] 76 (0, 0))) := HI.out.2.2.2.2.1.others c1 _ HC1.out hc1n hc1p (fun c fz e => by simp only [Obj.cells.injEq] at e; exact absurd e.2.1 (by decide))
      have HW2 : Hid (wr.heap[c2]? = some (.cells #[.pointer (some ⟨bp, 0, none⟩)] 97 (0, 0))) := HI.out.2.2.2.2.1.others c2 _ HC2.out hc2n hc2p (fun c fz e => by simp only [Obj.cells.injEq] at e; exact absurd e.2.1 (by decide))
      have hwr := HI.out.2.2.2.2.1.size
      have hlt' : (m : Int) < s.size := by omega
      clear hf hk
      go_wp2_with fail
      go_quiet (fail)
      go_wp2_with fail
      refine Calls.mono (codes1_any B br bp c1 c2 s m false p va v l _ hB1 hB2 ?g1 hne ?g2 ?g3 ?g4 HSS.out hm ?g5 ?g6 ?g7) ?_
      case g1 => exact Nat.le_trans hB hwr
      case g2 => exact HW1.out
      case g3 => exact HW2.out
      case g4 => exact HI.out.1
      case g5 => exact HI.out.2.1
      case g6 => exact HI.out.2.2.1
      case g7 => exact HI.out.2.2.2.1
      rintro e w1 ⟨rfl, v', hr1, hp1, ho1, hk1⟩
      have HN : Hid (Rd br s (rnAt s m 1) (rnBad s m 1 false) w1 ∧ PAt bp p va v' w1 ∧ w1.ownsRow B 3 1 v' (addTo l (getR s m (1 : Nat)).1).length (intCells (addTo l (getR s m (1 : Nat)).1)) ∧ (addTo l (getR s m (1 : Nat)).1).length ≤ 6 ∧ Kt B br bp 3 w w1 ∧ rCodes s f (rnAt s m 1) (rnBad s m 1 false) (addTo l (getR s m (1 : Nat)).1) = R ∧ (rnBad s m 1 false = true ∨ s.size - rnAt s m 1 < f)) := by
        refine ⟨hr1, hp1, ho1, addTo_le HI.out.2.2.2.1, HI.out.2.2.2.2.1.trans ((Kt.of_drewN _ _ _ _ _ _).trans hk1), HRF.out, ?_⟩
        cases hb : rnBad s m 1 false with
        | true => exact .inl rfl
        | false => right; have h1 := rn_moves hb; have h2 := HM.out; have h3 := HF.out; omega
      have hml : rnAt s m 1 ≤ s.size := rnAt_le hm
      clear hr1 hp1 ho1 hk1 h0 h1 h2 h3 h4
      go_wp2
      go_roundg f
      case measure => have := HF.out; omega
      case rel => exact ⟨_, _, _, v', hml, HN⟩
    · have HR : Hid (R = (l, m, bd)) := by
        have := HI.out.2.2.2.2.2.1
        cases gk with
        | zero => exact this.symm
        | succ f => rw [rCodes, if_neg hgo] at this; exact this.symm
      cases bd with
      | true =>
        clear hgo
        go_wp2_with fail
        go_quiet (fail)
        go_wp2
        go_end0
        exact ⟨rfl, v, by rw [HR.out]; exact HI.out.1, HI.out.2.1, by rw [HR.out]; exact HI.out.2.2.1, HI.out.2.2.2.2.1.trans ⟨rfl, rfl, rfl, Nat.le_refl _, fun _ _ => rfl, fun _ _ h _ _ _ => h⟩⟩
      | false =>
        have hge : (s.size : Int) ≤ m := by simp at hgo; omega
        have hge' : decide ((m : Int) < s.size) = false := by simp; omega
        clear hgo
        go_wp2_with fail
        go_quiet (fail)
        go_wp2
        go_end0
        exact ⟨rfl, v, by rw [HR.out]; exact HI.out.1, HI.out.2.1, by rw [HR.out]; exact HI.out.2.2.1, HI.out.2.2.2.2.1.trans ⟨rfl, rfl, rfl, Nat.le_refl _, fun _ _ => rfl, fun _ _ h _ _ _ => h⟩⟩


theorem heap2 (w : World) (o1 o2 : Obj) : ((w.alloc o1).alloc o2).heap[w.heap.size]? = some o1 ∧ ((w.alloc o1).alloc o2).heap[w.heap.size + 1]? = some o2 := by
  constructor
  · rw [Below.heap_alloc _ _ _ (by simp)]; exact Go.heap_alloc_new w o1
  · have := Go.heap_alloc_new (w.alloc o1) o2
    simpa using this

set_option maxHeartbeats 4000000 in
theorem rasks_any (B br bp : Nat) (s : ByteArray) (n : Nat) (bad : Bool) (p : Pk) (va vc : Value) (w : World)
    (hB1 : B ≤ br) (hB2 : B ≤ bp) (hB : B ≤ w.heap.size) (hne : bp ≠ br)
    (hR : Rd br s n bad w) (hs : s.size ≤ maxLen) (hn : n ≤ s.size) (hP : PAt bp p va vc w) (hO : w.ownsRow B 56 2 va 0 []) :
    Calls Tryz.prog 84 #[.pointer (some ⟨br, 0, none⟩), .pointer (some ⟨bp, 0, none⟩)] w fun e w' => e = .returned (.tuple #[]) ∧
      ∃ va', Rd br s (rAsks s p.kind (s.size + 1) n bad []).2.1 (rAsks s p.kind (s.size + 1) n bad []).2.2 w' ∧ PAt bp p va' vc w' ∧ w'.ownsRow B 56 2 va' (rAsks s p.kind (s.size + 1) n bad []).1.length (askCells (rAsks s p.kind (s.size + 1) n bad []).1) ∧ Kt B br bp 56 w w' := by
  have hbl : Below w.heap.size w ((w.alloc (.cells #[.pointer (some ⟨br, 0, none⟩)] 76)).alloc (.cells #[.pointer (some ⟨bp, 0, none⟩)] 97)) := ((Below.refl _ _).alloc (Nat.le_refl _) _).alloc (by simp) _
  have h2 := heap2 w (.cells #[.pointer (some ⟨br, 0, none⟩)] 76) (.cells #[.pointer (some ⟨bp, 0, none⟩)] 97)
  have hsz : B ≤ ((w.alloc (.cells #[.pointer (some ⟨br, 0, none⟩)] 76)).alloc (.cells #[.pointer (some ⟨bp, 0, none⟩)] 97)).heap.size := Nat.le_trans hB hbl.size
  have HC := hide (whileAsks_any B br bp w.heap.size (w.heap.size + 1) s n bad p va vc _ hB1 hB2 hsz hne h2.1 h2.2 (hR.below hbl) hs hn (by have := hP.lt; unfold PAt at *; rw [hbl.block bp this]; exact hP) (own_kept hO fun g hg => hbl.block g (own_lt hO g hg).2))
  have HK : Hid (Kt B br bp 56 w ((w.alloc (.cells #[.pointer (some ⟨br, 0, none⟩)] 76)).alloc (.cells #[.pointer (some ⟨bp, 0, none⟩)] 97))) := Kt.of_kx (Kx.of_below hbl) hB1 hB2 hB
  clear hbl h2 hsz hR hP hO
  go_enter Tryz.func84, Tryz.ntmps84
  go_wp2_with fail
  refine HC.out.mono ?_
  rintro e w1 ⟨rfl, va', h1, h2, h3, h4⟩
  have HF := hide (And.intro h1 (And.intro h2 (And.intro h3 (HK.out.trans h4))))
  clear h1 h2 h3 h4
  go_wp2
  go_end0
  exact ⟨rfl, va', HF.out⟩

set_option maxHeartbeats 4000000 in
theorem rcodes_any (B br bp : Nat) (s : ByteArray) (n : Nat) (bad : Bool) (p : Pk) (va vc : Value) (w : World)
    (hB1 : B ≤ br) (hB2 : B ≤ bp) (hB : B ≤ w.heap.size) (hne : bp ≠ br)
    (hR : Rd br s n bad w) (hs : s.size ≤ maxLen) (hn : n ≤ s.size) (hP : PAt bp p va vc w) (hO : w.ownsRow B 3 1 vc 0 []) :
    Calls Tryz.prog 85 #[.pointer (some ⟨br, 0, none⟩), .pointer (some ⟨bp, 0, none⟩)] w fun e w' => e = .returned (.tuple #[]) ∧
      ∃ vc', Rd br s (rCodes s (s.size + 1) n bad []).2.1 (rCodes s (s.size + 1) n bad []).2.2 w' ∧ PAt bp p va vc' w' ∧ w'.ownsRow B 3 1 vc' (rCodes s (s.size + 1) n bad []).1.length (intCells (rCodes s (s.size + 1) n bad []).1) ∧ Kt B br bp 3 w w' := by
  have hbl : Below w.heap.size w ((w.alloc (.cells #[.pointer (some ⟨br, 0, none⟩)] 76)).alloc (.cells #[.pointer (some ⟨bp, 0, none⟩)] 97)) := ((Below.refl _ _).alloc (Nat.le_refl _) _).alloc (by simp) _
  have h2 := heap2 w (.cells #[.pointer (some ⟨br, 0, none⟩)] 76) (.cells #[.pointer (some ⟨bp, 0, none⟩)] 97)
  have hsz : B ≤ ((w.alloc (.cells #[.pointer (some ⟨br, 0, none⟩)] 76)).alloc (.cells #[.pointer (some ⟨bp, 0, none⟩)] 97)).heap.size := Nat.le_trans hB hbl.size
  have HC := hide (whileCodes_any B br bp w.heap.size (w.heap.size + 1) s n bad p va vc _ hB1 hB2 hsz hne h2.1 h2.2 (hR.below hbl) hs hn (by have := hP.lt; unfold PAt at *; rw [hbl.block bp this]; exact hP) (own_kept hO fun g hg => hbl.block g (own_lt hO g hg).2))
  have HK : Hid (Kt B br bp 3 w ((w.alloc (.cells #[.pointer (some ⟨br, 0, none⟩)] 76)).alloc (.cells #[.pointer (some ⟨bp, 0, none⟩)] 97))) := Kt.of_kx (Kx.of_below hbl) hB1 hB2 hB
  clear hbl h2 hsz hR hP hO
  go_enter Tryz.func85, Tryz.ntmps85
  go_wp2_with fail
  refine HC.out.mono ?_
  rintro e w1 ⟨rfl, va', h1, h2, h3, h4⟩
  have HF := hide (And.intro h1 (And.intro h2 (And.intro h3 (HK.out.trans h4))))
  clear h1 h2 h3 h4
  go_wp2
  go_end0
  exact ⟨rfl, va', HF.out⟩
end Go.Proofs.YtnjdpibgfbbkcabGreatDoor
/-
  packet.reader's marked, rest, connect: what they read.
-/
namespace Go.Proofs.YtnjdpibgfbbkcabGreatDoor
open Go.RowKit Go.PlainAid Go.Deep

theorem PAt.set_dup {b : Nat} {p : Pk} {va vc : Value} {w : World} (h : PAt b p va vc w) (x : Bool) : PAt b { p with dup := x } va vc (w.setCell ⟨b, 1, none⟩ (.bool x)) := by
  unfold PAt at *; simp [World.setCell, Array.getElem?_modify, h]
theorem PAt.set_retain {b : Nat} {p : Pk} {va vc : Value} {w : World} (h : PAt b p va vc w) (x : Bool) : PAt b { p with retain := x } va vc (w.setCell ⟨b, 2, none⟩ (.bool x)) := by
  unfold PAt at *; simp [World.setCell, Array.getElem?_modify, h]
theorem PAt.set_clean {b : Nat} {p : Pk} {va vc : Value} {w : World} (h : PAt b p va vc w) (x : Bool) : PAt b { p with clean := x } va vc (w.setCell ⟨b, 3, none⟩ (.bool x)) := by
  unfold PAt at *; simp [World.setCell, Array.getElem?_modify, h]
theorem PAt.set_session {b : Nat} {p : Pk} {va vc : Value} {w : World} (h : PAt b p va vc w) (x : Bool) : PAt b { p with session := x } va vc (w.setCell ⟨b, 4, none⟩ (.bool x)) := by
  unfold PAt at *; simp [World.setCell, Array.getElem?_modify, h]
theorem PAt.set_qos {b : Nat} {p : Pk} {va vc : Value} {w : World} (h : PAt b p va vc w) (x : Int) : PAt b { p with qos := x } va vc (w.setCell ⟨b, 5, none⟩ (.int .i64 x)) := by
  unfold PAt at *; simp [World.setCell, Array.getElem?_modify, h]
theorem PAt.set_id {b : Nat} {p : Pk} {va vc : Value} {w : World} (h : PAt b p va vc w) (x : Int) : PAt b { p with id := x } va vc (w.setCell ⟨b, 6, none⟩ (.int .i64 x)) := by
  unfold PAt at *; simp [World.setCell, Array.getElem?_modify, h]
theorem PAt.set_keep {b : Nat} {p : Pk} {va vc : Value} {w : World} (h : PAt b p va vc w) (x : Int) : PAt b { p with keep := x } va vc (w.setCell ⟨b, 7, none⟩ (.int .i64 x)) := by
  unfold PAt at *; simp [World.setCell, Array.getElem?_modify, h]
theorem PAt.set_code {b : Nat} {p : Pk} {va vc : Value} {w : World} (h : PAt b p va vc w) (x : Int) : PAt b { p with code := x } va vc (w.setCell ⟨b, 8, none⟩ (.int .i64 x)) := by
  unfold PAt at *; simp [World.setCell, Array.getElem?_modify, h]
theorem PAt.set_client {b : Nat} {p : Pk} {va vc : Value} {w : World} (h : PAt b p va vc w) (x : ByteArray) : PAt b { p with client := x } va vc (w.setCell ⟨b, 9, none⟩ (.string x)) := by
  unfold PAt at *; simp [World.setCell, Array.getElem?_modify, h]
theorem PAt.set_topic {b : Nat} {p : Pk} {va vc : Value} {w : World} (h : PAt b p va vc w) (x : ByteArray) : PAt b { p with topic := x } va vc (w.setCell ⟨b, 10, none⟩ (.string x)) := by
  unfold PAt at *; simp [World.setCell, Array.getElem?_modify, h]
theorem PAt.set_payload {b : Nat} {p : Pk} {va vc : Value} {w : World} (h : PAt b p va vc w) (x : ByteArray) : PAt b { p with payload := x } va vc (w.setCell ⟨b, 11, none⟩ (.string x)) := by
  unfold PAt at *; simp [World.setCell, Array.getElem?_modify, h]
theorem Rd.other {b c : Nat} {s : ByteArray} {n : Nat} {bad : Bool} {w : World} (h : Rd b s n bad w) (hne : b ≠ c) (o : Nat) (v : Value) : Rd b s n bad (w.setCell ⟨c, o, none⟩ v) := by
  unfold Rd at *; rw [Below.heap_setCell _ _ _ _ hne]; exact h

/-- a byte that is a mark, or 0 -/
def rmBad (s : ByteArray) (n : Nat) (m : Int) (bad : Bool) : Bool := rnBad s n 1 bad || !((getR s n (1 : Nat)).1 == 0 || (getR s n (1 : Nat)).1 == m)

set_option maxHeartbeats 2000000 in
theorem rmarked_any (b : Nat) (s : ByteArray) (n : Nat) (m : Int) (bad : Bool) (w : World) (hs : s.size ≤ maxLen) (hn : n ≤ s.size) (h : Rd b s n bad w) :
    Calls Tryz.prog 67 #[.pointer (some ⟨b, 0, none⟩), .int .i64 m] w fun e w' => e = .returned (.bool ((getR s n (1 : Nat)).1 == m)) ∧ Rd b s (rnAt s n 1) (rmBad s n m bad) w' ∧ Kx b b w w' := by
  have HR := hide h
  have HC : Hid (∀ W, Rd b s n bad W → Calls Tryz.prog 68 #[.pointer (some ⟨b, 0, none⟩), .int .i64 1] W fun e w' => e = .returned (.int .i64 (getR s n (1 : Nat)).1) ∧ Rd b s (rnAt s n 1) (rnBad s n 1 bad) w' ∧ Kx b b W w') := fun W h => rnumber_any b s n 1 bad W hs hn h
  clear h
  have HB : Hid (rmBad s n m bad = (rnBad s n 1 bad || !((getR s n (1 : Nat)).1 == 0 || (getR s n (1 : Nat)).1 == m))) := rfl
  revert HC HB
  generalize (getR s n (1 : Nat)).1 = v
  generalize rmBad s n m bad = bb
  intro HC HB
  by_cases h0 : v = 0
  · have h0' : (v == 0) = true := by simp [h0]
    have HBB : Hid (bb = (rnBad s n 1 bad || !true)) := by rw [HB.out, h0']; show _ = _; simp
    clear h0
    go_enter Tryz.func67, Tryz.ntmps67
    go_wp2_with fail
    refine (HC.out _ HR.out).mono ?_
    rintro e w1 ⟨rfl, hr1, hk1⟩
    have HR1 := hide hr1
    have HK1 := hide hk1
    clear hr1 hk1
    go_wp2_with fail
    refine (must_any b s _ _ true _ HR1.out).mono ?_
    rintro e w2 ⟨rfl, hr2, hk2⟩
    have HF := hide (And.intro hr2 (HK1.out.trans hk2))
    clear hr2 hk2
    go_wp2
    go_ret
    exact ⟨rfl, by rw [HBB.out]; exact HF.out.1, HF.out.2⟩
  · have h0' : (v == 0) = false := by simp [h0]
    have HBB : Hid (bb = (rnBad s n 1 bad || !(v == m))) := by rw [HB.out, h0']; show _ = _; simp
    clear h0
    go_enter Tryz.func67, Tryz.ntmps67
    go_wp2_with fail
    refine (HC.out _ HR.out).mono ?_
    rintro e w1 ⟨rfl, hr1, hk1⟩
    have HR1 := hide hr1
    have HK1 := hide hk1
    clear hr1 hk1
    go_wp2_with fail
    refine (must_any b s _ _ (v == m) _ HR1.out).mono ?_
    rintro e w2 ⟨rfl, hr2, hk2⟩
    have HF := hide (And.intro hr2 (HK1.out.trans hk2))
    clear hr2 hk2
    go_wp2
    go_ret
    exact ⟨rfl, by rw [HBB.out]; exact HF.out.1, HF.out.2⟩

set_option maxHeartbeats 2000000 in
theorem rrest_any (b : Nat) (s : ByteArray) (n : Nat) (bad : Bool) (w : World) (hs : s.size ≤ 281474976710656) (hn : n ≤ s.size) (h : Rd b s n bad w) :
    Calls Tryz.prog 83 #[.pointer (some ⟨b, 0, none⟩)] w fun e w' => e = .returned (.string (s.extract n s.size)) ∧ Rd b s s.size bad w' ∧ Kx b b w w' := by
  have HR := hide h
  obtain ⟨h0, h1, h2, h3, h4⟩ := h.cells
  clear h
  go_enter Tryz.func83, Tryz.ntmps83
  go_wp2_with fail
  go_region_with (go_at_call 19; refine (clone_any _ _ (by simp only [ByteArray.size_extract]; omega)).mono ?_; rintro x w1 ⟨rfl, hb1⟩)
  all_goals
    have HR1 := hide (Rd.below (w := w.drew) (show Rd b s n bad w.drew from HR.out) hb1)
    have HK1 := hide ((Kx.of_drew b b w 1).trans (Kx.of_below hb1))
    obtain ⟨g0, g1, g2, g3, g4⟩ := HR1.out.cells
    clear hb1
    go_wp2
    go_ret
    exact ⟨rfl, HR1.out.set1 s.size, HK1.out.trans (Kx.set _ _ _ _ _)⟩
end Go.Proofs.YtnjdpibgfbbkcabGreatDoor
/-
  packet.reader's connect, publish and withId: what they read.
-/
namespace Go.Proofs.YtnjdpibgfbbkcabGreatDoor
open Go.RowKit Go.PlainAid Go.Deep

/-- what is read of a Connect, step by step -/
def conB1 (s : ByteArray) (n : Nat) (bad : Bool) : Bool := rtBad s n bad || !((gtR s n).1.toList == [77, 81, 84, 84])
def conB2 (s : ByteArray) (n : Nat) (bad : Bool) : Bool := rnBad s (rtAt s n) 1 (conB1 s n bad) || !((getR s (rtAt s n) (1 : Nat)).1 == 4)
def conN2 (s : ByteArray) (n : Nat) : Nat := rnAt s (rtAt s n) 1
def conB3 (s : ByteArray) (n : Nat) (bad : Bool) : Bool := rmBad s (conN2 s n) 2 (conB2 s n bad)
def conN3 (s : ByteArray) (n : Nat) : Nat := rnAt s (conN2 s n) 1
def conB4 (s : ByteArray) (n : Nat) (bad : Bool) : Bool := rnBad s (conN3 s n) 2 (conB3 s n bad)
def conN4 (s : ByteArray) (n : Nat) : Nat := rnAt s (conN3 s n) 2
def conB5 (s : ByteArray) (n : Nat) (bad : Bool) : Bool := rtBad s (conN4 s n) (conB4 s n bad)
def conN5 (s : ByteArray) (n : Nat) : Nat := rtAt s (conN4 s n)
def conP (s : ByteArray) (n : Nat) (p : Pk) : Pk := { p with clean := (getR s (conN2 s n) (1 : Nat)).1 == 2, keep := (getR s (conN3 s n) (2 : Nat)).1, client := (gtR s (conN4 s n)).1 }

set_option maxHeartbeats 4000000 in
theorem rconnect_any (br bp : Nat) (s : ByteArray) (n : Nat) (bad : Bool) (p : Pk) (va vc : Value) (w : World) (hne : bp ≠ br) (hR : Rd br s n bad w) (hs : s.size ≤ maxLen) (hn : n ≤ s.size) (hP : PAt bp p va vc w) :
    Calls Tryz.prog 66 #[.pointer (some ⟨br, 0, none⟩), .pointer (some ⟨bp, 0, none⟩)] w fun e w' => e = .returned (.tuple #[]) ∧ Rd br s (conN5 s n) (conB5 s n bad) w' ∧ PAt bp (conP s n p) va vc w' ∧ Kx br bp w w' := by
  have h1 := rtAt_le hn
  have h2 : conN2 s n ≤ s.size := rnAt_le h1
  have h3 : conN3 s n ≤ s.size := rnAt_le h2
  have h4 : conN4 s n ≤ s.size := rnAt_le h3
  have C1 := hide (fun W => rtext_any br s n bad W hs hn)
  have C2 := hide (fun W b => rnumber_any br s (rtAt s n) 1 b W hs h1)
  have C3 := hide (fun W b => rmarked_any br s (conN2 s n) 2 b W hs h2)
  have C4 := hide (fun W b => rnumber_any br s (conN3 s n) 2 b W hs h3)
  have C5 := hide (fun W b => rtext_any br s (conN4 s n) b W hs h4)
  have CM := hide (fun W m b be => must_any br s m b be W)
  have HR := hide hR
  have HP := hide hP
  clear hR hP h1 h2 h3 h4
  go_enter Tryz.func66, Tryz.ntmps66
  go_wp2_with fail
  refine (C1.out _ HR.out).mono ?_
  rintro e w1 ⟨rfl, hr1, hk1⟩
  have HR1 := hide hr1
  have HK1 := hide hk1
  have HP1 := hide (HP.out.kx hk1 hne)
  clear hr1 hk1 HR HP
  go_wp2_with fail
  refine (CM.out _ _ _ ((gtR s n).1.toList == [77, 81, 84, 84]) HR1.out).mono ?_
  rintro e w2 ⟨rfl, hr2, hk2⟩
  have HR2 := hide hr2
  have HK2 := hide (HK1.out.trans hk2)
  have HP2 := hide (HP1.out.kx hk2 hne)
  clear hr2 hk2 HR1 HP1 HK1
  go_wp2_with fail
  refine (C2.out _ _ HR2.out).mono ?_
  rintro e w3 ⟨rfl, hr3, hk3⟩
  have HR3 := hide hr3
  have HK3 := hide (HK2.out.trans hk3)
  have HP3 := hide (HP2.out.kx hk3 hne)
  clear hr3 hk3 HR2 HP2 HK2
  go_wp2_with fail
  refine (CM.out _ _ _ ((getR s (rtAt s n) (1 : Nat)).1 == 4) HR3.out).mono ?_
  rintro e w4 ⟨rfl, hr4, hk4⟩
  have HR4 : Hid (Rd br s (conN2 s n) (conB2 s n bad) w4) := hr4
  have HK4 := hide (HK3.out.trans hk4)
  have HP4 := hide (HP3.out.kx hk4 hne)
  clear hr4 hk4 HR3 HP3 HK3
  go_wp2_with fail
  refine (C3.out _ _ HR4.out).mono ?_
  rintro e w5 ⟨rfl, hr5, hk5⟩
  have HR5 : Hid (Rd br s (conN3 s n) (conB3 s n bad) w5) := hr5
  have HK5 := hide (HK4.out.trans hk5)
  have HP5 := hide (HP4.out.kx hk5 hne)
  have a1 := HP5.out.cell 3
  have a2 := HP5.out.frozen 3
  clear hr5 hk5 HR4 HP4 HK4
  go_wp2_with fail
  refine (C4.out _ _ (HR5.out.other hne.symm _ _)).mono ?_
  rintro e w6 ⟨rfl, hr6, hk6⟩
  have HR6 : Hid (Rd br s (conN4 s n) (conB4 s n bad) w6) := hr6
  have HK6 := hide ((Kx.of_one (b := bp) HK5.out).trans ((Kx.set2 br bp _ _ _).trans (Kx.of_one hk6)))
  have HP6 := hide ((HP5.out.set_clean ((getR s (conN2 s n) (1 : Nat)).1 == 2)).kx hk6 hne)
  have b1 := HP6.out.cell 7
  have b2 := HP6.out.frozen 7
  clear hr6 hk6 HR5 HP5 HK5 a1 a2
  go_wp2_with fail
  refine (C5.out _ _ (HR6.out.other hne.symm _ _)).mono ?_
  rintro e w7 ⟨rfl, hr7, hk7⟩
  have HR7 : Hid (Rd br s (conN5 s n) (conB5 s n bad) w7) := hr7
  have HK7 := hide (HK6.out.trans ((Kx.set2 br bp _ _ _).trans (Kx.of_one hk7)))
  have HP7 := hide ((HP6.out.set_keep (getR s (conN3 s n) (2 : Nat)).1).kx hk7 hne)
  have c1 := HP7.out.cell 9
  have c2 := HP7.out.frozen 9
  clear hr7 hk7 HR6 HP6 HK6 b1 b2
  go_wp2
  go_end0
  exact ⟨rfl, HR7.out.other hne.symm _ _, HP7.out.set_client _, HK7.out.trans (Kx.set2 br bp _ _ _)⟩

/-- a bit of a Publish's first byte -/
def bitB (b : Nat) (m : Int) : Bool := bits .and .i64 (b : Int) m != 0
def pubN (s : ByteArray) (n b : Nat) : Nat := if bitB b 2 = true then rnAt s (rtAt s n) 2 else rtAt s n
def pubB (s : ByteArray) (n b : Nat) (bad : Bool) : Bool := if bitB b 2 = true then rnBad s (rtAt s n) 2 (rtBad s n bad) else rtBad s n bad
def pubP (s : ByteArray) (n b : Nat) (p : Pk) : Pk :=
  { p with dup := bitB b 8, retain := bitB b 1, topic := (gtR s n).1, qos := if bitB b 2 = true then 1 else p.qos, id := if bitB b 2 = true then (getR s (rtAt s n) (2 : Nat)).1 else p.id, payload := s.extract (pubN s n b) s.size }

set_option maxHeartbeats 4000000 in
theorem rpublish_any (br bp b : Nat) (s : ByteArray) (n : Nat) (bad : Bool) (p : Pk) (va vc : Value) (w : World) (hne : bp ≠ br) (hR : Rd br s n bad w) (hs : s.size ≤ 281474976710656) (hn : n ≤ s.size) (hP : PAt bp p va vc w) :
    Calls Tryz.prog 69 #[.pointer (some ⟨br, 0, none⟩), .pointer (some ⟨bp, 0, none⟩), .int .i64 b] w fun e w' => e = .returned (.tuple #[]) ∧ Rd br s s.size (pubB s n b bad) w' ∧ PAt bp (pubP s n b p) va vc w' ∧ Kx br bp w w' := by
  have hs' : s.size ≤ maxLen := by unfold maxLen; omega
  have h1 := rtAt_le hn
  have h2 : pubN s n b ≤ s.size := by unfold pubN; split; exact rnAt_le h1; exact h1
  have C1 := hide (fun W => rtext_any br s n bad W hs' hn)
  have C2 := hide (fun W b => rnumber_any br s (rtAt s n) 2 b W hs' h1)
  have C3 := hide (fun W b' => rrest_any br s (pubN s n b) b' W hs h2)
  have HR := hide hR
  have HP := hide hP
  have e1 : (bits .and .i64 (b : Int) 8 != 0) = bitB b 8 := rfl
  have e2 : (bits .and .i64 (b : Int) 1 != 0) = bitB b 1 := rfl
  have e3 : (bits .and .i64 (b : Int) 2 != 0) = bitB b 2 := rfl
  generalize hpp : pubP s n b p = pp
  generalize hpb : pubB s n b bad = bb
  have a1 := hP.cell 1
  have a2 := hP.frozen 1
  have a3 := hP.cell 2
  have a4 := hP.frozen 2
  have HPP := hide hpp
  have HPB := hide hpb
  clear hR hP h1 h2 hpp hpb
  go_enter Tryz.func69, Tryz.ntmps69
  go_wp2_with fail
  refine (C1.out _ ((HR.out.other hne.symm _ _).other hne.symm _ _)).mono ?_
  rintro e w1 ⟨rfl, hr1, hk1⟩
  have HR1 := hide hr1
  have HP1 := hide (((HP.out.set_dup (bitB b 8)).set_retain (bitB b 1)).kx hk1 hne)
  have HK1 := hide ((Kx.set2 br bp w _ _).trans ((Kx.set2 br bp _ _ _).trans (Kx.of_one hk1)))
  have c1 := HP1.out.cell 10
  have c2 := HP1.out.frozen 10
  clear hr1 hk1 HR HP a1 a2 a3 a4
  cases hq : bitB b 2 with
  | true =>
    have c3 := HP1.out.cell 5
    have c4 := HP1.out.frozen 5
    have HN : Hid (pubN s n b = rnAt s (rtAt s n) 2) := if_pos hq
    have HQ := hide hq
    rw [hq] at e3
    clear hq
    go_wp2_with fail
    refine (C2.out _ _ ((HR1.out.other hne.symm _ _).other hne.symm _ _)).mono ?_
    rintro e w2 ⟨rfl, hr2, hk2⟩
    have HR2 : Hid (Rd br s (pubN s n b) bb w2) := by
      rw [HN.out, ← HPB.out]; unfold pubB; rw [if_pos HQ.out]; exact hr2
    have HP2 := hide (((HP1.out.set_topic (gtR s n).1).set_qos 1).kx hk2 hne)
    have HK2 := hide (HK1.out.trans ((Kx.set2 br bp _ _ _).trans ((Kx.set2 br bp _ _ _).trans (Kx.of_one hk2))))
    have d1 := HP2.out.cell 6
    have d2 := HP2.out.frozen 6
    clear hr2 hk2 HR1 HP1 HK1 c1 c2 c3 c4
    go_wp2_with fail
    refine (C3.out _ _ (HR2.out.other hne.symm _ _)).mono ?_
    rintro e w3 ⟨rfl, hr3, hk3⟩
    have HR3 := hide hr3
    have HP3 := hide ((HP2.out.set_id (getR s (rtAt s n) (2 : Nat)).1).kx hk3 hne)
    have HK3 := hide (HK2.out.trans ((Kx.set2 br bp _ _ _).trans (Kx.of_one hk3)))
    have f1 := HP3.out.cell 11
    have f2 := HP3.out.frozen 11
    clear hr3 hk3 HR2 HP2 HK2 d1 d2
    go_wp2
    go_end0
    refine ⟨rfl, HR3.out.other hne.symm _ _, ?_, HK3.out.trans (Kx.set2 br bp _ _ _)⟩
    rw [← HPP.out]
    unfold pubP
    rw [if_pos HQ.out, if_pos HQ.out]
    exact HP3.out.set_payload _
  | false =>
    have HN : Hid (pubN s n b = rtAt s n) := if_neg (by rw [hq]; simp)
    have HQ : Hid (¬ bitB b 2 = true) := by show ¬ _; rw [hq]; simp
    rw [hq] at e3
    clear hq
    go_wp2_with fail
    have HR2 : Hid (Rd br s (pubN s n b) bb w1) := by
      rw [HN.out, ← HPB.out]; unfold pubB; rw [if_neg HQ.out]; exact HR1
    refine (C3.out _ _ (HR2.out.other hne.symm _ _)).mono ?_
    rintro e w3 ⟨rfl, hr3, hk3⟩
    have HR3 := hide hr3
    have HP3 := hide ((HP1.out.set_topic (gtR s n).1).kx hk3 hne)
    have HK3 := hide (HK1.out.trans ((Kx.set2 br bp _ _ _).trans (Kx.of_one hk3)))
    have f1 := HP3.out.cell 11
    have f2 := HP3.out.frozen 11
    clear hr3 hk3 HR2 HP1 HK1 c1 c2
    go_wp2
    go_end0
    refine ⟨rfl, HR3.out.other hne.symm _ _, ?_, HK3.out.trans (Kx.set2 br bp _ _ _)⟩
    rw [← HPP.out]
    unfold pubP
    rw [if_neg HQ.out, if_neg HQ.out]
    exact HP3.out.set_payload _

/-- what is read of those with an Id -/
def widR (s : ByteArray) (n : Nat) (bad : Bool) (p : Pk) : Pk × Nat × Bool :=
  if p.kind = 8 ∨ p.kind = 10 then
    ({ p with id := (getR s n (2 : Nat)).1, asks := (rAsks s p.kind (s.size + 1) (rnAt s n 2) (rnBad s n 2 bad) []).1 }, (rAsks s p.kind (s.size + 1) (rnAt s n 2) (rnBad s n 2 bad) []).2)
  else if p.kind = 9 then
    ({ p with id := (getR s n (2 : Nat)).1, codes := (rCodes s (s.size + 1) (rnAt s n 2) (rnBad s n 2 bad) []).1 }, (rCodes s (s.size + 1) (rnAt s n 2) (rnBad s n 2 bad) []).2)
  else ({ p with id := (getR s n (2 : Nat)).1 }, rnAt s n 2, rnBad s n 2 bad)

set_option maxHeartbeats 4000000 in
theorem rwithId_any (B br bp : Nat) (s : ByteArray) (n : Nat) (bad : Bool) (p : Pk) (w : World) (hB1 : B ≤ br) (hB2 : B ≤ bp) (hB : B ≤ w.heap.size) (hne : bp ≠ br) (hR : Rd br s n bad w) (hs : s.size ≤ maxLen) (hn : n ≤ s.size) (hP : PAt bp p (.slice none 0 0) (.slice none 0 0) w) (hpa : p.asks = []) (hpc : p.codes = []) :
    Calls Tryz.prog 70 #[.pointer (some ⟨br, 0, none⟩), .pointer (some ⟨bp, 0, none⟩)] w fun e w' => e = .returned (.tuple #[]) ∧
      ∃ va vc, Rd br s (widR s n bad p).2.1 (widR s n bad p).2.2 w' ∧ PAt bp (widR s n bad p).1 va vc w' ∧ w'.ownsRow B 56 2 va (widR s n bad p).1.asks.length (askCells (widR s n bad p).1.asks) ∧ w'.ownsRow B 3 1 vc (widR s n bad p).1.codes.length (intCells (widR s n bad p).1.codes) ∧ Below B w w' ∧ (∀ k o, w.heap[k]? = some o → k ≠ br → k ≠ bp → (∀ c fz, o ≠ .cells c 56 fz) → (∀ c fz, o ≠ .cells c 3 fz) → w'.heap[k]? = some o) := by
  have h1 : rnAt s n 2 ≤ s.size := rnAt_le hn
  have C1 := hide (fun W => rnumber_any br s n 2 bad W hs hn)
  have C2 := hide (fun W x y => rasks_any B br bp s (rnAt s n 2) (rnBad s n 2 bad) { p with id := (getR s n (2 : Nat)).1 } x y W hB1 hB2)
  have C3 := hide (fun W x y => rcodes_any B br bp s (rnAt s n 2) (rnBad s n 2 bad) { p with id := (getR s n (2 : Nat)).1 } x y W hB1 hB2)
  generalize hww : widR s n bad p = R
  have HWW := hide hww
  have HR := hide hR
  have HP := hide hP
  have HS := hide hs
  have HPA := hide hpa
  have HPC := hide hpc
  clear hR hP hs hww hpa hpc
  go_enter Tryz.func70, Tryz.ntmps70
  go_wp2_with fail
  refine (C1.out _ HR.out).mono ?_
  rintro e w1 ⟨rfl, hr1, hk1⟩
  have HP1 := hide (HP.out.kx hk1 hne)
  have HR1 := hide hr1
  have HK1 := hide hk1
  have hs1 := hk1.size
  have c1 := HP1.out.cell 6
  have c2 := HP1.out.frozen 6
  have c3 := HP1.out.cell 0
  clear hr1 hk1 HP HR
  go_upto_region 1 with fail
  have HR2 := hide (HR1.out.other hne.symm 6 (.int .i64 (getR s n (2 : Nat)).1))
  have HP2 := hide (HP1.out.set_id (getR s n (2 : Nat)).1)
  have HK2 := hide ((Kx.of_one (b := bp) HK1.out).trans (Kx.set2 br bp w1 6 (.int .i64 (getR s n (2 : Nat)).1)))
  have hs2 : w1.heap.size ≤ (w1.setCell ⟨bp, 6, none⟩ (.int .i64 (getR s n (2 : Nat)).1)).heap.size := by simp [World.setCell]
  revert HR2 HP2 HK2 hs2
  generalize w1.setCell ⟨bp, 6, none⟩ (.int .i64 (getR s n (2 : Nat)).1) = W
  intro HR2 HP2 HK2 hs2
  have d0 : W.cell? ⟨bp, 0, none⟩ = some (.int .i64 p.kind) := HP2.out.cell 0
  have HBW : Hid (Below B w W) := HK2.out.below hB hB1 hB2
  have HOT : Hid (∀ k o, w.heap[k]? = some o → k ≠ br → k ≠ bp → W.heap[k]? = some o) := fun k o hk h1 h2 => by rw [HK2.out.block k (Array.getElem?_eq_some_iff.1 hk).1 h1 h2]; exact hk
  clear c1 c2 c3 HR1 HP1 HK1
  by_cases h8 : p.kind = 8 ∨ p.kind = 10
  · have HW : Hid (R = ({ p with id := (getR s n (2 : Nat)).1, asks := (rAsks s p.kind (s.size + 1) (rnAt s n 2) (rnBad s n 2 bad) []).1 }, (rAsks s p.kind (s.size + 1) (rnAt s n 2) (rnBad s n 2 bad) []).2)) := HWW.out.symm.trans (if_pos h8)
    have HCA := hide (C2.out W (.slice none 0 0) (.slice none 0 0) (by omega) hne HR2.out HS.out h1 HP2.out (World.ownsRow_nil _ _ _ _))
    have hk8 : (p.kind == 8) = true ∨ ((p.kind == 8) = false ∧ (p.kind == 10) = true) := by
      rcases h8 with h8 | h8
      · left; simp [h8]
      · right; simp [h8]
    clear h8
    rcases hk8 with hk8 | ⟨hk8, hk10⟩
    all_goals
      go_wp2_with fail
      refine HCA.out.mono ?_
      rintro e w2 ⟨rfl, va', g1, g2, g3, g4⟩
      have HF : Hid (Rd br s R.2.1 R.2.2 w2 ∧ PAt bp R.1 va' (.slice none 0 0) w2 ∧ w2.ownsRow B 56 2 va' R.1.asks.length (askCells R.1.asks) ∧ w2.ownsRow B 3 1 (.slice none 0 0) R.1.codes.length (intCells R.1.codes) ∧ Below B w w2 ∧ (∀ k o, w.heap[k]? = some o → k ≠ br → k ≠ bp → (∀ c fz, o ≠ .cells c 56 fz) → (∀ c fz, o ≠ .cells c 3 fz) → w2.heap[k]? = some o)) := by
        rw [HW.out]
        refine ⟨g1, g2, g3, ?_, HBW.out.trans g4.below, fun k o hk h1 h2 h3 h4 => g4.others k o (HOT.out k o hk h1 h2) h1 h2 h3⟩
        simp only
        rw [HPC.out]
        exact World.ownsRow_nil _ _ _ _
      clear g1 g2 g3 g4
      go_wp2
      go_end0
      exact ⟨rfl, va', _, HF.out⟩
  · by_cases h9 : p.kind = 9
    · have HW : Hid (R = ({ p with id := (getR s n (2 : Nat)).1, codes := (rCodes s (s.size + 1) (rnAt s n 2) (rnBad s n 2 bad) []).1 }, (rCodes s (s.size + 1) (rnAt s n 2) (rnBad s n 2 bad) []).2)) := HWW.out.symm.trans ((if_neg h8).trans (if_pos h9))
      have HCA := hide (C3.out W (.slice none 0 0) (.slice none 0 0) (by omega) hne HR2.out HS.out h1 HP2.out (World.ownsRow_nil _ _ _ _))
      have e8 : (p.kind == 8) = false := by simp; omega
      have e10 : (p.kind == 10) = false := by simp; omega
      have e9 : (p.kind == 9) = true := by simp [h9]
      clear h8 h9
      go_wp2_with fail
      refine HCA.out.mono ?_
      rintro e w2 ⟨rfl, va', g1, g2, g3, g4⟩
      have HF : Hid (Rd br s R.2.1 R.2.2 w2 ∧ PAt bp R.1 (.slice none 0 0) va' w2 ∧ w2.ownsRow B 56 2 (.slice none 0 0) R.1.asks.length (askCells R.1.asks) ∧ w2.ownsRow B 3 1 va' R.1.codes.length (intCells R.1.codes) ∧ Below B w w2 ∧ (∀ k o, w.heap[k]? = some o → k ≠ br → k ≠ bp → (∀ c fz, o ≠ .cells c 56 fz) → (∀ c fz, o ≠ .cells c 3 fz) → w2.heap[k]? = some o)) := by
        rw [HW.out]
        refine ⟨g1, g2, ?_, g3, HBW.out.trans g4.below, fun k o hk h1 h2 h3 h4 => g4.others k o (HOT.out k o hk h1 h2) h1 h2 h4⟩
        simp only
        rw [HPA.out]
        exact World.ownsRow_nil _ _ _ _
      clear g1 g2 g3 g4
      go_wp2
      go_end0
      exact ⟨rfl, _, va', HF.out⟩
    · have HW : Hid (R = ({ p with id := (getR s n (2 : Nat)).1 }, rnAt s n 2, rnBad s n 2 bad)) := HWW.out.symm.trans ((if_neg h8).trans (if_neg h9))
      have e8 : (p.kind == 8) = false := by simp; omega
      have e10 : (p.kind == 10) = false := by simp; omega
      have e9 : (p.kind == 9) = false := by simp; omega
      have HF : Hid (Rd br s R.2.1 R.2.2 W ∧ PAt bp R.1 (.slice none 0 0) (.slice none 0 0) W ∧ W.ownsRow B 56 2 (.slice none 0 0) R.1.asks.length (askCells R.1.asks) ∧ W.ownsRow B 3 1 (.slice none 0 0) R.1.codes.length (intCells R.1.codes) ∧ Below B w W ∧ (∀ k o, w.heap[k]? = some o → k ≠ br → k ≠ bp → (∀ c fz, o ≠ .cells c 56 fz) → (∀ c fz, o ≠ .cells c 3 fz) → W.heap[k]? = some o)) := by
        rw [HW.out]
        refine ⟨HR2.out, HP2.out, ?_, ?_, HBW.out, fun k o hk h1 h2 _ _ => HOT.out k o hk h1 h2⟩
        · simp only; rw [HPA.out]; exact World.ownsRow_nil _ _ _ _
        · simp only; rw [HPC.out]; exact World.ownsRow_nil _ _ _ _
      clear h8 h9
      go_wp2
      go_end0
      exact ⟨rfl, _, _, HF.out⟩
end Go.Proofs.YtnjdpibgfbbkcabGreatDoor
