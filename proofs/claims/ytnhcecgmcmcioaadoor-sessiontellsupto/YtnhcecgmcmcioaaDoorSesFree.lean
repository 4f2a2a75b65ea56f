/-
  session.sender's freeId: what it answers; what appends of flights leave.
-/
import Derived.Test.YtnhcecgmcmcioaaDoorSesFly
import Derived.Deep.LoopGhost
namespace Go.Proofs.YtnhcecgmcmcioaaDoor
open Go.RowKit Go.PlainAid

set_option maxHeartbeats 4000000 in
theorem freeId_any (N b : Nat) (s : Se) (aa : Option Addr) (ca : Nat) (ab : Option Addr) (cb : Nat) (vs : Value) (L : List Pk) (w W : World) (hs : Sd N b s (.slice aa s.fl.length ca) ab cb vs L w W) (hl : s.fl.length ≤ 3) (hn : 1 ≤ s.next ∧ s.next ≤ 65535) :
    Calls Tryd.prog 47 #[.pointer (some ⟨b, 0, none⟩)] W fun e W' => e = .returned (.int .i64 (frId s.fl 4 s.next)) ∧ Sd N b s (.slice aa s.fl.length ca) ab cb vs L w W' ∧ Below W.heap.size W W' := by
  generalize hR : frId s.fl 4 s.next = R
  have HR := hide hR
  have HS := hide hs
  have CI := hide (fun id V (h : Sd N b s (.slice aa s.fl.length ca) ab cb vs L w V) => sesIsOf_any s.fl aa ca id V h.flights (by omega))
  have CB := hide (fun id V (h : 0 ≤ id ∧ id ≤ 65535) => behind_any id V h)
  have x5 : W.cell? ⟨b, 5, none⟩ = some (.int .i64 s.next) := hs.box.cell 5
  clear hR hs
  go_enter Tryd.func47, Tryd.ntmps47
  go_wp2
  go_loopg [3] 4 (fun g x wr => ∃ id : Int, x = .int .i64 id ∧ (1 ≤ id ∧ id ≤ 65535) ∧ Hid (Sd N b s (.slice aa s.fl.length ca) ab cb vs L w wr ∧ frId s.fl g id = R) ∧ Hid (Below W.heap.size W wr))
  case atStart => exact ⟨s.next, rfl, hn, ⟨HS.out, HR.out⟩, Below.refl _ _⟩
  case round =>
    obtain ⟨id, rfl, hid, HI, HBW⟩ := hrel
    have x3 : wr.cell? ⟨b, 3, none⟩ = some (.slice aa s.fl.length ca) := HI.out.1.box.cell 3
    have hfr := (frId_free hl hn).1
    have hnx := nxt_in hid
    cases hA : s.fl.any (isI id) with
    | true =>
      have C := hide (CI.out id wr HI.out.1)
      rw [hA] at C
      cases gk with
      | zero =>
        exfalso
        have h1 : id = R := HI.out.2
        rw [HR.out, ← h1, hA] at hfr
        cases hfr
      | succ g =>
        have HF : Hid (frId s.fl g (nxt id) = R) := by have := HI.out.2; rw [frId, if_pos hA] at this; exact this
        have HSD := hide HI.out.1
        clear HI hA hfr
        have C2 := hide (fun V => CB.out id V (by omega))
        generalize nxt id = id2 at *
        clear CB CI
        go_wp2_with fail
        refine C.out.mono ?_
        rintro e w1 ⟨rfl, hb⟩
        have HS1 := hide (HSD.out.step hb)
        have HB1 := hide (below_step HBW.out hb)
        clear hb x3 HSD C
        go_wp2_with fail
        refine (C2.out _).mono ?_
        rintro e w2 ⟨rfl, hw⟩
        subst w2
        go_wp2
        go_roundg g
        case measure => omega
        case rel => exact ⟨id2, rfl, hnx, ⟨HS1.out, HF.out⟩, HB1⟩
    | false =>
      have C := hide (CI.out id wr HI.out.1)
      rw [hA] at C
      have HQ : Hid (R = id) := by
        have := HI.out.2
        cases gk with
        | zero => exact this.symm
        | succ g => rw [frId, if_neg (by simp [hA])] at this; exact this.symm
      have HSD := hide HI.out.1
      clear HI hA hfr CI CB
      go_wp2_with fail
      refine C.out.mono ?_
      rintro e w1 ⟨rfl, hb⟩
      have HS1 := hide (HSD.out.step hb)
      have HB1 := hide (below_step HBW.out hb)
      clear hb x3 HSD C
      go_wp2
      go_ret
      exact ⟨by rw [HQ.out]; rfl, HS1.out, HB1.out⟩

section
variable {ops : Array Oper} {o : Oper} {a : Act} {K : Act → World → Prop} {Q : Exit → Act → World → Prop} {E : Prop} {W : World} {v : Value} {N : Nat}
/-- a flight more, in a region that draws its order -/
theorem stepFl (hgd : o.guard = none) (x y : Operand) (ho : o.op = .call { callee := .builtin .append, args := #[x, y], argTypes := #[22, 22] }) (L : List Fl)
    (hx : a.eval x = v) (B : Nat) (hy : a.eval y = .slice (some ⟨B, 0, none⟩) 1 1) (hI : W.ownsRow N 46 3 v L.length (flCells L)) (hN : N ≤ W.heap.size) (f : Fl) (hB : W.heap[B]? = some (.cells #[.int .i64 f.id, .string f.topic, .string f.load] 46 (0, 0))) (hk : L.length ≤ 1048576)
    (h : ∀ g cap W', W'.ownsRow N 46 3 (.slice (some ⟨g, 0, none⟩) (L.length + 1) cap) (L ++ [f]).length (flCells (L ++ [f])) → W.grownBy W' v.ownBlock → (v.ownBlock = some g ∨ g = W.heap.size) → L.length + 1 ≤ cap → K (a.put o.dst (.slice (some ⟨g, 0, none⟩) (L.length + 1) cap)) W') :
    if Region.wanted o (yielded ops a.tmps) = true then Oper.wp Tryd.prog o a W K Q else E := by
  obtain ⟨i0, hi, hz0, hz1, hz2⟩ := info_parts (show (Tryd.prog.info? 46).map (fun i => (i.zero, i.size, i.bytes)) = some (some (.agg #[.int .i64 0, .string ⟨#[]⟩, .string ⟨#[]⟩]), 3, 40) by kernel_rfl)
  refine step_append_lies W hgd x y 22 ho N 46 i0 _ 3 40 Tryd.underlying22 hi hz0 hz1 hz2 rfl (by decide) v L.length _ hx hI ⟨B, 0, none⟩ 1 1 [.int .i64 f.id, .string f.topic, .string f.load] hy rfl (World.news_of_block hB) (by simp [Value.oneCell']) (by decide) (by unfold maxLen; omega) (by omega) hN _ rfl ?_
  intro g cap W' hown hgrow hat hlt
  have hown' : W'.ownsRow N 46 3 (.slice (some ⟨g, 0, none⟩) (L.length + 1) cap) (L ++ [f]).length (flCells (L ++ [f])) := by
    rw [List.length_append, flCells_append]
    exact hown
  have hcap : L.length + 1 ≤ cap := by
    rcases hown'.2 with ⟨_, h0⟩ | ⟨g', cap', cur, hv, _, _, hnc, _⟩
    · simp at h0
    · injection hv with _ _ hc
      subst hc
      simpa using hnc
  exact h g cap W' hown' hgrow hat hcap
end
end Go.Proofs.YtnhcecgmcmcioaaDoor
