/-
  packet.reader's codes: the function literal that reads one code.
-/
import Derived.Test.YtgmjdelgocbcaabDoorReaderAsks
namespace Go.Proofs.YtgmjdelgocbcaabDoor
open Go.RowKit Go.PlainAid Go.Deep

def intCells (l : List Int) : List Value := l.map (Value.int .i64)

set_option maxHeartbeats 4000000 in
theorem codes1_any (B br bp c1 c2 : Nat) (s : ByteArray) (n : Nat) (bad : Bool) (p : Pk) (va vc : Value) (l : List Int) (w : World)
    (hB1 : B ≤ br) (hB2 : B ≤ bp) (hB : B ≤ w.heap.size) (hne : bp ≠ br)
    (hc1 : w.heap[c1]? = some (.cells #[.pointer (some ⟨br, 0, none⟩)] 83 (0, 0))) (hc2 : w.heap[c2]? = some (.cells #[.pointer (some ⟨bp, 0, none⟩)] 104 (0, 0)))
    (hR : Rd br s n bad w) (hs : s.size ≤ maxLen) (hn : n ≤ s.size) (hP : PAt bp p va vc w) (hO : w.ownsRow B 3 1 vc l.length (intCells l)) (hl : l.length ≤ 6) :
    Calls Tryd.prog 95 #[.pointer (some ⟨c1, 0, none⟩), .pointer (some ⟨c2, 0, none⟩)] w fun e w' => e = .returned (.tuple #[]) ∧
      ∃ vc', Rd br s (rnAt s n 1) (rnBad s n 1 bad) w' ∧ PAt bp p va vc' w' ∧ w'.ownsRow B 3 1 vc' (addTo l (getR s n (1 : Nat)).1).length (intCells (addTo l (getR s n (1 : Nat)).1)) ∧ Kt B br bp 3 w w' := by
  have hc1n : c1 ≠ br := fun e => by unfold Rd at hR; rw [e, hR] at hc1; simp at hc1
  have hc2n : c2 ≠ br := fun e => by unfold Rd at hR; rw [e, hR] at hc2; simp at hc2
  have d1 : w.cell? ⟨c1, 0, none⟩ = some (.pointer (some ⟨br, 0, none⟩)) := by rw [Lib.cell_of_heap hc1]; rfl
  obtain ⟨ao, cap, rfl⟩ := own_form hO
  have HS := hide hs
  have HR := hide hR
  have HP := hide hP
  have HO := hide hO
  have HC2 := hide hc2
  have hl2 := (Array.getElem?_eq_some_iff.1 hc2).1
  have hbp := hP.lt
  have hbr := hR.lt
  clear hs hR hP hO hc1 hc2
  obtain ⟨i0, hi, hz0, hz1, hz2⟩ := info_parts (show (Tryd.prog.info? 3).map (fun i => (i.zero, i.size, i.bytes)) = some (some (.int .i64 0), 1, 8) by kernel_rfl)
  have HG : Hid (∀ W, Rd br s n bad W → Calls Tryd.prog 75 #[.pointer (some ⟨br, 0, none⟩), .int .i64 1] W fun e w' => e = .returned (.int .i64 (getR s n (1 : Nat)).1) ∧ Rd br s (rnAt s n 1) (rnBad s n 1 bad) w' ∧ Kx br br W w') := fun W h => rnumber_any br s n 1 bad W HS.out hn h
  revert HG
  generalize (getR s n (1 : Nat)).1 = Q
  intro HG
  go_enter Tryd.func95, Tryd.ntmps95
  go_wp2_with fail
  refine (HG.out _ HR.out).mono ?_
  rintro e W ⟨rfl, hr1, hk1⟩
  have HR3 := hide hr1
  have HP3 := hide (HP.out.kx hk1 hne)
  have hs1 := hk1.size
  have HO3 : Hid (W.ownsRow B 3 1 (.slice ao l.length cap) l.length (intCells l)) := own_kept HO.out fun g hg => hk1.block g (own_lt HO.out g hg).2 (fun e => own_ne HO.out HR.out (by decide) (by rw [hg, e])) (fun e => own_ne HO.out HR.out (by decide) (by rw [hg, e]))
  have e2 : W.cell? ⟨c2, 0, none⟩ = some (.pointer (some ⟨bp, 0, none⟩)) := by rw [Lib.cell_of_heap ((hk1.block c2 hl2 hc2n hc2n).trans HC2.out)]; rfl
  have HK3 : Hid (Kt B br bp 3 w W) := Kt.of_kx (Kx.of_one hk1) hB1 hB2 hB
  clear hr1 hk1 d1
  have hbp3 := HP3.out.lt
  have hbr3 := HR3.out.lt
  have hB3 : B ≤ W.heap.size := by omega
  have hc23 : c2 < W.heap.size := by omega
  have e12 : W.cell? ⟨bp, 13, none⟩ = some (.slice ao l.length cap) := HP3.out.cell 13
  have f12 : W.frozen? ⟨bp, 13, none⟩ = false := HP3.out.frozen 13
  by_cases h5 : l.length ≤ 5
  · have h5' : (l.length : Int) ≤ 5 := by omega
    have HAD : Hid (addTo l Q = l ++ [Q]) := by show _ = _; unfold addTo; rw [if_pos h5]
    have H63 : Hid (l.length + 1 ≤ maxLen) := by show _ ≤ _; unfold maxLen; omega
    have H47 : Hid ((l.length + 1) * 8 ≤ 140737488355328) := by show _ ≤ _; omega
    have HNP : Hid ((Value.slice ao l.length cap).ownBlock ≠ some bp) := own_ne HO3.out HP3.out (by decide)
    have HNR : Hid ((Value.slice ao l.length cap).ownBlock ≠ some br) := own_ne HO3.out HR3.out (by decide)
    have HNC : Hid ((Value.slice ao l.length cap).ownBlock ≠ some c2) := own_ne HO.out HC2.out (by decide)
    have HC12 : Hid ((W.drew.alloc (.cells #[.int .i64 Q] 3)).cell? ⟨bp, 13, none⟩ = some (.slice ao l.length cap)) := (World.cell?_alloc_old _ _ _ (by show bp ≠ W.heap.size; omega)).trans e12
    have HF12 : Hid ((W.drew.alloc (.cells #[.int .i64 Q] 3)).frozen? ⟨bp, 13, none⟩ = false) := (World.frozen?_alloc_old _ _ _ (by show bp ≠ W.heap.size; omega)).trans f12
    have HC20 : Hid ((W.drew.alloc (.cells #[.int .i64 Q] 3)).cell? ⟨c2, 0, none⟩ = some (.pointer (some ⟨bp, 0, none⟩))) := (World.cell?_alloc_old _ _ _ (by show c2 ≠ W.heap.size; omega)).trans e2
    go_wp2_with fail
    go_region_law (refine step_append_lies _ rfl (.tmp 15) (.tmp 17) 23 rfl B 3 i0 (.int .i64 0) 1 8 Tryd.underlying23 hi hz0 hz1 hz2 rfl (by decide) (.slice ao l.length cap) l.length (intCells l) (by simp [Act.eval]) (World.ownsRow.alloc (w := W.drew) HO3.out _) ⟨W.heap.size, 0, none⟩ 1 1 [.int .i64 Q] (by simp [Act.eval]) rfl (World.news_of_block (w := W.drew.alloc _) (B := W.heap.size) (Go.heap_alloc_new W.drew _)) (by simp [Value.oneCell']) (by decide) H63.out H47.out (by simp; omega) (W.heap.size + 1) (by simp) ?_; intro g cap' w4 hown4 hgrow4 hat4 hlt4; have k1 : w4.cell? ⟨bp, 13, none⟩ = some (.slice ao l.length cap) := (hgrow4.cell_far ⟨bp, 13, none⟩ (by simp; omega) (fun e => HNP.out e.symm)).trans HC12.out; have k2 : w4.frozen? ⟨bp, 13, none⟩ = false := (hgrow4.frozen_far ⟨bp, 13, none⟩ (by simp; omega) (fun e => HNP.out e.symm)).trans HF12.out; have k3 : w4.cell? ⟨c2, 0, none⟩ = some (.pointer (some ⟨bp, 0, none⟩)) := (hgrow4.cell_far ⟨c2, 0, none⟩ (by simp; omega) (fun e => HNC.out e.symm)).trans HC20.out)
    all_goals
      go_wp2
      go_end0
      have hgp : g ≠ bp := by
        rcases hat4 with hat4 | hat4
        · intro e; subst e; exact HNP.out hat4
        · omega
      refine ⟨rfl, .slice (some ⟨g, 0, none⟩) (l.length + 1) cap', ?_, ?_, ?_, ?_⟩
      · show _ = _
        rw [Below.heap_setCell _ _ _ _ (fun e => hne e.symm), grow_block hgrow4 hbr3 HNR.out]
        exact HR3.out
      · refine PAt.set13 (vc := .slice ao l.length cap) ?_ _
        show _ = _
        rw [grow_block hgrow4 hbp3 HNP.out]
        exact HP3.out
      · rw [HAD.out, List.length_append, intCells, List.map_append]
        exact own_kept hown4 fun k hk => Below.heap_setCell _ _ _ _ (by simp only [Value.ownBlock, Option.some.injEq] at hk; subst hk; exact hgp)
      · exact (HK3.out.trans (grow_kt hgrow4 HO3.out hB3)).trans (Kt.of_kx (Kx.set2 _ _ _ _ _) hB1 hB2 (by have := hgrow4.size; simp at this; omega))
  · have h5' : decide ((l.length : Int) ≤ 5) = false := by simp; omega
    have HAD : Hid (addTo l Q = l) := by show _ = _; unfold addTo; rw [if_neg h5]
    go_wp2
    go_end0
    exact ⟨rfl, _, HR3.out, HP3.out, by rw [HAD.out]; exact HO3.out, HK3.out⟩
end Go.Proofs.YtgmjdelgocbcaabDoor
