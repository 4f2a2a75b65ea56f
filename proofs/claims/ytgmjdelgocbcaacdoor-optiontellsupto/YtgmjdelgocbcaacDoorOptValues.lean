/-
  option.values: the row of texts that it answers.
-/
import Derived.Test.YtgmjdelgocbcaacDoorOptUint
namespace Go.Proofs.YtgmjdelgocbcaacDoor
open Go.RowKit Go.PlainAid

def valsL (l : List Op2) (n : Int) : List ByteArray := (l.filter (fun o => decide (o.1 = n))).map (·.2)
/-- a row of texts comes -/
def SRow (w : World) (L : List ByteArray) (e : Ending) (w' : World) : Prop := ∃ aa ca, e = .returned (.slice aa L.length ca) ∧ StrsIn w' aa L ∧ (L = [] ∨ L.length ≤ ca) ∧ Below w.heap.size w w'
theorem own_strs {w : World} {B : Nat} {ao : Option Addr} {n co : Nat} {l : List ByteArray} (h : w.ownsRow B 9 1 (.slice ao n co) n (l.map .string)) (hn : n = l.length) : StrsIn w ao l := by
  rcases h.2 with ⟨_, h0⟩ | ⟨g, cap, cur, hv, hb, hg, _, _, _, htake⟩
  · exact .inl (List.length_eq_zero_iff.1 (hn.symm.trans h0))
  · injection hv with ha _ _
    subst ha
    refine .inr ⟨g, 0, rfl, (Array.getElem?_eq_some_iff.1 hg).1, fun i hi => ?_⟩
    have hh : (l.map Value.string)[i]? = some (.string l[i]) := by simp [hi]
    rw [← htake, List.getElem?_take, if_pos (by omega)] at hh
    rw [Nat.zero_add, Lib.cell_of_heap hg]
    simpa using hh

set_option maxHeartbeats 4000000 in
set_option maxRecDepth 100000 in
theorem values_any (m : Mg) (ao : Option Addr) (co : Nat) (n : Int) (w : World) (hl : OptsIn w ao m.opts) (h12 : m.opts.length ≤ 12) (hs : ∀ k ∈ m.opts, k.2.size ≤ 281474976710656) :
    Calls Tryd.prog 31 #[mgV m ao co, .int .i64 n] w (SRow w (valsL m.opts n)) := by
  obtain ⟨i0, hi, hz0, hz1, hz2⟩ := info_parts (show (Tryd.prog.info? 9).map (fun i => (i.zero, i.size, i.bytes)) = some (some (.string ⟨#[]⟩), 1, 16) by kernel_rfl)
  obtain ⟨k, c, i, t, l, p⟩ := m
  simp only [mgV, valsL] at *
  have C1 : Hid (∀ W, Below w.heap.size w W → W.cell? ⟨w.heap.size + 1, 0, none⟩ = some (.int .i64 n) → w.heap.size + 1 < W.heap.size → Calls Tryd.prog 42 #[.slice ao l.length co, .func (.func 48) #[] #[.pointer (some ⟨w.heap.size + 1, 0, none⟩)]] W (ORow W (l.filter (fun o => decide (o.1 = n))))) := fun W hW hc hz =>
    without_is (w.heap.size + 1) _ l ao co W (hl.below hW) h12 hs fun k W' hW' => olit_is k (w.heap.size + 1) n W' ((hW'.cell (p := ⟨w.heap.size + 1, 0, none⟩) hz).trans hc) (Nat.lt_of_lt_of_le hz hW'.size)
  have hF := List.length_filter_le (fun o : Op2 => decide (o.1 = n)) l
  clear hl hs
  generalize l.filter (fun o => decide (o.1 = n)) = F at *
  have HB0 := hide (((Below.refl w.heap.size w).alloc (Nat.le_refl _) (.cells #[.int .i64 k, .int .i64 c, .int .i64 i, .string t, .slice ao l.length co, .string p] 24)).alloc (by simp) (.cells #[.int .i64 n] 3))
  go_enter Tryd.func31, Tryd.ntmps31
  go_wp2_with fail
  refine (C1.out _ HB0.out (by simp [go_sem]) (by simp)).mono ?_
  intro e w1 h1
  obtain ⟨v1, rfl, hown1, hb1⟩ := h1
  obtain ⟨a1, c1, rfl⟩ := oown_form hown1
  have HO := hide (own_ops hown1 rfl)
  have HB1 := hide (below_step HB0.out hb1)
  clear hown1 hb1 C1 HB0
  go_wp2_with fail
  go_loopw [5, 13] (fun x q wr => ∃ (j : Nat) (aa : Option Addr) (ca : Nat), j ≤ F.length ∧ q = .int .i64 j ∧ x = .slice aa j ca ∧ Hid (wr.ownsRow w1.heap.size 9 1 (.slice aa j ca) j (((F.take j).map (·.2)).map .string) ∧ Below w1.heap.size w1 wr)) (fun _ q _ => F.length - (intOf q).toNat)
  case atStart => exact ⟨0, none, 0, by omega, rfl, rfl, World.ownsRow_nil _ _ _ _, Below.refl _ _⟩
  case round =>
    obtain ⟨j, aa, ca, hj, rfl, rfl, HR⟩ := hrel
    by_cases hlt : j < F.length
    · obtain ⟨b, o, rfl, hb, hcell⟩ := opts_here HO.out hlt
      have hk1 : wr.cell? ⟨b, o + j * 2, none⟩ = some (.int .i64 F[j].1) := by rw [HR.out.2.cell (p := ⟨b, _, none⟩) hb]; exact (hcell j hlt).1
      have hk2 : wr.cell? ⟨b, o + j * 2 + 1, none⟩ = some (.string F[j].2) := by rw [HR.out.2.cell (p := ⟨b, _, none⟩) hb]; exact (hcell j hlt).2
      have HSN : Hid (((F.take (j + 1)).map (·.2)).map Value.string = ((F.take j).map (·.2)).map Value.string ++ [.string F[j].2]) := by
        show _ = _
        rw [List.take_succ_eq_append_getElem hlt, List.map_append, List.map_append]
        rfl
      generalize F[j] = x at *
      obtain ⟨y, s⟩ := x
      simp only at hk1 hk2 HSN
      generalize ((F.take j).map (·.2)).map Value.string = X at *
      clear hcell
      have hsz := HR.out.2.size
      have hne : wr.heap.size ≠ wr.heap.size + 1 := by omega
      go_wp2_with (at_builtin; refine wpList_append_own _ rfl _ _ 47 rfl w1.heap.size 9 i0 _ 1 16 Tryd.underlying47 hi hz0 hz1 hz2 rfl (by decide) _ _ _ rfl ((HR.out.1.alloc _).alloc _) ⟨wr.heap.size + 1, 0, none⟩ 1 1 [.string s] rfl rfl ?c1 ?c2 ?c3 ?c4 ?c5 ?_)
      case c1 => exact World.news_of_block (oblk1 (by simp))
      case c2 => intro u hu; simp at hu; subst hu; rfl
      case c3 => unfold maxLen; omega
      case c4 => omega
      case c5 => simp; omega
      intro v' w2 hown' hgrow _
      have hb2 : Below w1.heap.size w1 w2 := ((HR.out.2.alloc hsz _).alloc (by simp; omega) _).grown hgrow (by simp; omega) (fun g hg => (HR.out.1.lt g hg).1)
      obtain ⟨aa2, ca2, rfl⟩ := oown_form hown'
      have HR2 : Hid (w2.ownsRow w1.heap.size 9 1 (.slice aa2 (j + 1) ca2) (j + 1) (((F.take (j + 1)).map (·.2)).map .string) ∧ Below w1.heap.size w1 w2) := ⟨by rw [HSN.out]; exact hown', hb2⟩
      clear hown' hgrow hb2 HR
      go_wp2
      go_roundw
      case rel => exact ⟨j + 1, aa2, ca2, by omega, by go_num, rfl, HR2.out⟩
      case measure => simp [intOf]; omega
    · have hje : j = F.length := by omega
      subst hje
      rw [List.take_length] at HR
      go_wp2
      go_ret
      refine ⟨aa, ca, by rw [List.length_map]; rfl, own_strs HR.out.1 (by rw [List.length_map]), ?_, below_step HB1.out HR.out.2⟩
      rcases HR.out.1.2 with ⟨_, h0⟩ | ⟨g, cap, cur, hv, hb, hg, hnc, _⟩
      · exact .inl (List.length_eq_zero_iff.1 (by rw [List.length_map]; exact h0))
      · injection hv with _ _ hc
        subst hc
        exact .inr (by rw [List.length_map]; exact hnc)
end Go.Proofs.YtgmjdelgocbcaacDoor
