/-
  The reference's WithOf: what it answers.
-/
import Derived.Test.YtgmjdelgocbcaacDoorOptRefUint
import Derived.Test.YtgmjdelgocbcaacDoorRefCheck
namespace Go.Proofs.YtgmjdelgocbcaacDoor
open Go.RowKit Go.PlainAid

theorem opts_above : ∀ (l : List Op2) (a n : Int), optsE a l = 0 → n < a → ∀ o ∈ l, n < o.1 := by
  intro l
  induction l with
  | nil => intro a n _ _ o ho; cases ho
  | cons x l ih =>
    intro a n h hn o ho
    rw [optsE] at h
    split at h
    · simp at h
    · split at h
      · simp at h
      · split at h
        · simp at h
        · cases ho with
          | head => omega
          | tail _ ho => exact ih x.1 n h (by omega) o ho
/-- those that stand ahead of where a number goes -/
theorem opts_cut : ∀ (l : List Op2) (a n : Int), optsE a l = 0 → ∃ K, K ≤ l.length ∧ (∀ o ∈ l.take K, o.1 ≤ n) ∧ (∀ o ∈ l.drop K, n < o.1) := by
  intro l
  induction l with
  | nil => intro a n _; exact ⟨0, by simp, by simp, by simp⟩
  | cons x l ih =>
    intro a n h
    have h' := h
    rw [optsE] at h
    split at h
    · simp at h
    · split at h
      · simp at h
      · split at h
        · simp at h
        · by_cases hx : x.1 ≤ n
          · obtain ⟨K, h1, h2, h3⟩ := ih x.1 n h
            refine ⟨K + 1, by simp; omega, fun o ho => ?_, fun o ho => h3 o (by simpa using ho)⟩
            rw [List.take_succ_cons] at ho
            cases ho with
            | head => exact hx
            | tail _ ho => exact h2 o ho
          · refine ⟨0, by simp, by simp, fun o ho => ?_⟩
            rw [List.drop_zero] at ho
            cases ho with
            | head => omega
            | tail _ ho => exact opts_above l x.1 n h (by omega) o ho
def OL (l : List Op2) (n : Int) (vs : List ByteArray) (K i : Nat) : List Op2 := if i ≤ K then (l.take i).filter (fun o => decide (o.1 < n)) else l.filter (fun o => decide (o.1 < n)) ++ vs.map (fun v => (n, v)) ++ (l.take i).filter (fun o => decide (n < o.1))
section
variable {l : List Op2} {n : Int} {vs : List ByteArray} {K i : Nat}
theorem OL_low (h : i < K) (hi : i < l.length) (hle : l[i].1 ≤ n) : OL l n vs K (i + 1) = OL l n vs K i ++ (if l[i].1 = n then [] else [l[i]]) := by
  unfold OL
  rw [if_pos (by omega), if_pos (by omega), ofilter_snoc _ _ i hi]
  congr 1
  by_cases e : l[i].1 = n
  · rw [if_neg (by simp [e]), if_pos e]
  · rw [if_pos (by simp; omega), if_neg e]
theorem OL_at (h2 : ∀ o ∈ l.drop K, n < o.1) : OL l n vs K K = l.filter (fun o => decide (o.1 < n)) := by
  unfold OL
  rw [if_pos (Nat.le_refl _)]
  conv => rhs; rw [← List.take_append_drop K l, List.filter_append]
  have : (l.drop K).filter (fun o => decide (o.1 < n)) = [] := by
    rw [List.filter_eq_nil_iff]; intro o ho; have := h2 o ho; simp; omega
  rw [this, List.append_nil]
theorem OL_low0 (h1 : ∀ o ∈ l.take K, o.1 ≤ n) : (l.take K).filter (fun o => decide (n < o.1)) = [] := by
  rw [List.filter_eq_nil_iff]; intro o ho; have := h1 o ho; simp; omega
theorem OL_mid (h1 : ∀ o ∈ l.take K, o.1 ≤ n) (hk : K < l.length) (hlt : n < l[K].1) : OL l n vs K (K + 1) = l.filter (fun o => decide (o.1 < n)) ++ vs.map (fun v => (n, v)) ++ [l[K]] := by
  unfold OL
  rw [if_neg (by omega), ofilter_snoc _ _ K hk, OL_low0 h1, if_pos (by simp; omega)]; rfl
theorem OL_last (h1 : ∀ o ∈ l.take K, o.1 ≤ n) (hk : K = l.length) : OL l n vs K (K + 1) = l.filter (fun o => decide (o.1 < n)) ++ vs.map (fun v => (n, v)) := by
  unfold OL
  rw [if_neg (by omega), List.take_of_length_le (by omega)]
  have := OL_low0 h1
  rw [List.take_of_length_le (by omega)] at this
  rw [this, List.append_nil]
theorem OL_high (h : K < i) (hi : i < l.length) (hlt : n < l[i].1) : OL l n vs K (i + 1) = OL l n vs K i ++ [l[i]] := by
  unfold OL
  rw [if_neg (by omega), if_neg (by omega), ofilter_snoc _ _ i hi, if_pos (by simp; omega)]
  simp only [List.append_assoc]
theorem OL_past (h : K < l.length) : OL l n vs K (l.length + 1) = OL l n vs K l.length := by
  unfold OL
  rw [if_neg (by omega), if_neg (by omega), List.take_of_length_le (by omega), List.take_of_length_le (by omega)]
theorem OL_end (h : K ≤ l.length) : OL l n vs K (l.length + 1) = withL l n vs := by
  unfold OL withL
  rw [if_neg (by omega), List.take_of_length_le (by omega)]
theorem OL_len (hi : i ≤ l.length + 1) : (OL l n vs K i).length ≤ 2 * l.length + vs.length := by
  unfold OL
  have a1 : ((l.take i).filter (fun o => decide (o.1 < n))).length ≤ l.length := Nat.le_trans (List.length_filter_le _ _) (by rw [List.length_take]; omega)
  have a2 : ((l.take i).filter (fun o => decide (n < o.1))).length ≤ l.length := Nat.le_trans (List.length_filter_le _ _) (by rw [List.length_take]; omega)
  have a3 : (l.filter (fun o => decide (o.1 < n))).length ≤ l.length := List.length_filter_le _ _
  split
  · omega
  · simp only [List.length_append, List.length_map]; omega
end

/-- the values so far -/
def XV (vs : List ByteArray) (X0 : List Op2) (n : Int) (q : Nat) : List Op2 := X0 ++ (vs.take q).map (fun v => (n, v))
theorem XV_zero (vs : List ByteArray) (X0 : List Op2) (n : Int) : XV vs X0 n 0 = X0 := by unfold XV; rw [List.take_zero, List.map_nil, List.append_nil]
theorem XV_succ {vs : List ByteArray} (X0 : List Op2) (n : Int) {q : Nat} (h : q < vs.length) : XV vs X0 n (q + 1) = XV vs X0 n q ++ [(n, vs[q])] := by
  unfold XV; rw [List.take_succ_eq_append_getElem h, List.map_append, List.append_assoc]; rfl
theorem XV_all (vs : List ByteArray) (X0 : List Op2) (n : Int) : XV vs X0 n vs.length = X0 ++ vs.map (fun v => (n, v)) := by unfold XV; rw [List.take_of_length_le (Nat.le_refl _)]
theorem XV_len (vs : List ByteArray) (X0 : List Op2) (n : Int) (q : Nat) : (XV vs X0 n q).length ≤ X0.length + vs.length := by
  unfold XV; rw [List.length_append, List.length_map, List.length_take]; omega

set_option maxHeartbeats 8000000 in
set_option maxRecDepth 100000 in
theorem withOf_any (m : Mg) (ao : Option Addr) (co : Nat) (n : Int) (vs : List ByteArray) (av : Option Addr) (cv : Nat) (w : World) (hl : OptsIn w ao m.opts) (hs : StrsIn w av vs) (hc : chkM m = 0) (h6 : vs.length ≤ 6) :
    Calls Tryd.prog 20 #[mgV m ao co, .int .i64 n, .slice av vs.length cv] w (NewW w (chkdM (withM m n vs)) (chkM (withM m n vs))) := by
  have h12 := (chkM_ok hc).2.2.2.2.1
  obtain ⟨K, hK, hk1, hk2⟩ := opts_cut m.opts 0 n (chkM_ok hc).2.2.2.2.2.2
  have HL := hide hl
  have HS := hide hs
  have HLO : Hid (∀ i (h : i < m.opts.length), i < K → m.opts[i].1 ≤ n ∧ OL m.opts n vs K (i + 1) = OL m.opts n vs K i ++ (if m.opts[i].1 = n then [] else [m.opts[i]])) := fun i h hi => by
    have := hk1 m.opts[i] (by rw [List.mem_iff_getElem]; exact ⟨i, by rw [List.length_take]; omega, by simp⟩)
    exact ⟨this, OL_low hi h this⟩
  have hup : ∀ i (h : i < m.opts.length), K ≤ i → n < m.opts[i].1 := fun i h hi =>
    hk2 m.opts[i] (by rw [List.mem_iff_getElem]; exact ⟨i - K, by rw [List.length_drop]; omega, by simp; congr 1; omega⟩)
  have HHI : Hid (∀ i (h : i < m.opts.length), K < i → n < m.opts[i].1 ∧ OL m.opts n vs K (i + 1) = OL m.opts n vs K i ++ [m.opts[i]]) := fun i h hi => ⟨hup i h (by omega), OL_high hi h (hup i h (by omega))⟩
  have HAT := hide (OL_at (vs := vs) hk2)
  have HMI : Hid (∀ (h : K < m.opts.length), n < m.opts[K].1 ∧ OL m.opts n vs K (K + 1) = m.opts.filter (fun o => decide (o.1 < n)) ++ vs.map (fun v => (n, v)) ++ [m.opts[K]]) := fun h => ⟨hup K h (Nat.le_refl _), OL_mid hk1 h (hup K h (Nat.le_refl _))⟩
  have HLA : Hid (K = m.opts.length → OL m.opts n vs K (K + 1) = m.opts.filter (fun o => decide (o.1 < n)) ++ vs.map (fun v => (n, v))) := fun h => OL_last hk1 h
  have HPA : Hid (K < m.opts.length → OL m.opts n vs K (m.opts.length + 1) = OL m.opts n vs K m.opts.length) := fun h => OL_past h
  have HEN : Hid (OL m.opts n vs K (m.opts.length + 1) = (withM m n vs).opts) := OL_end hK
  have HLE : Hid (∀ i, i ≤ m.opts.length + 1 → (OL m.opts n vs K i).length ≤ 30) := fun i hi => by have := OL_len (n := n) (vs := vs) (K := K) hi; omega
  have HFL : Hid ((m.opts.filter (fun o => decide (o.1 < n))).length ≤ 12) := Nat.le_trans (List.length_filter_le _ _) h12
  have HO0 : Hid (OL m.opts n vs K 0 = []) := by show _ = _; unfold OL; rw [if_pos (Nat.zero_le _)]; rfl
  have HC : Hid (∀ W aa ca, OptsIn W aa (withM m n vs).opts → Calls Tryd.prog 14 #[mgV (withM m n vs) aa ca] W fun e w' => e = .returned (.int .i64 (chkM (withM m n vs))) ∧ Below W.heap.size W w') := fun W aa ca h => rcheck_any (withM m n vs) aa ca W h
  have HD0 : Hid (chkM (withM m n vs) = 0 → chkdM (withM m n vs) = withM m n vs) := fun h => by rw [chkdM, if_pos h]
  have HD1 : Hid (chkM (withM m n vs) ≠ 0 → chkdM (withM m n vs) = zMg) := fun h => by rw [chkdM, if_neg h]
  have HWM : Hid (withM m n vs = ⟨m.kind, m.code, m.id, m.token, (withM m n vs).opts, m.payload⟩) := rfl
  clear hl hs hc hk1 hk2 hup
  generalize chkdM (withM m n vs) = D at *
  generalize chkM (withM m n vs) = E at *
  generalize hWM : withM m n vs = WM at *
  clear hWM
  obtain ⟨k, c, i, t, l, p⟩ := m
  obtain ⟨k2, c2, i2, t2, l2, p2⟩ := WM
  simp only at *
  obtain ⟨rfl, rfl, rfl, rfl, rfl⟩ : k = k2 ∧ c = c2 ∧ i = i2 ∧ t = t2 ∧ p = p2 := by have := HWM.out; injection this with a1 a2 a3 a4 a5 a6; exact ⟨a1.symm, a2.symm, a3.symm, a4.symm, a6.symm⟩
  clear HWM
  simp only [mgV] at *
  have HI0 : Hid (Br w (.cells #[.int .i64 k, .int .i64 c, .int .i64 i, .string t, .slice ao l.length co, .string p] 24 (0, 0)) (.cells #[.int .i64 0, .int .i64 0, .int .i64 0, .string ⟨#[]⟩, .slice none 0 0, .string ⟨#[]⟩] 24 (0, 0)) (.cells #[.int .i64 k, .int .i64 c, .int .i64 i, .string t, .slice none ([] : List Op2).length 0, .string p] 24 (0, 0)) ([] : List Op2) (.slice none ([] : List Op2).length 0) (((w.alloc (.cells #[.int .i64 k, .int .i64 c, .int .i64 i, .string t, .slice ao l.length co, .string p] 24)).alloc (.cells #[.int .i64 0, .int .i64 0, .int .i64 0, .string ⟨#[]⟩, .slice none 0 0, .string ⟨#[]⟩] 24)).alloc (.cells #[.int .i64 k, .int .i64 c, .int .i64 i, .string t, .slice none 0 0, .string p] 24))) := by
    refine ⟨(((Below.refl _ _).alloc (Nat.le_refl _) _).alloc (by simp) _).alloc (by simp; omega) _, ?_, ?_, oblk1 (by simp), World.ownsRow_nil _ _ _ _⟩
    · rw [Below.heap_alloc _ _ _ (by simp; omega), Below.heap_alloc _ _ _ (by simp)]; exact Go.heap_alloc_new w _
    · rw [Below.heap_alloc _ _ _ (by simp)]; exact oblk1 (by simp)
  go_enter Tryd.func20, Tryd.ntmps20
  go_upto_region 3 with fail
  revert HI0
  generalize ((w.alloc (.cells #[.int .i64 k, .int .i64 c, .int .i64 i, .string t, .slice ao l.length co, .string p] 24)).alloc (.cells #[.int .i64 0, .int .i64 0, .int .i64 0, .string ⟨#[]⟩, .slice none 0 0, .string ⟨#[]⟩] 24)).alloc (.cells #[.int .i64 k, .int .i64 c, .int .i64 i, .string t, .slice none 0 0, .string p] 24) = W0
  intro HI0
  go_wp2_with fail
  go_loopw [9, 10, 11] (fun pv iv _ wr => ∃ (j : Nat) (aa : Option Addr) (ca : Nat), j ≤ l.length + 1 ∧ pv = .bool (decide (K < j)) ∧ iv = .int .i64 j ∧ Hid (Br w (.cells #[.int .i64 k, .int .i64 c, .int .i64 i, .string t, .slice ao l.length co, .string p] 24 (0, 0)) (.cells #[.int .i64 0, .int .i64 0, .int .i64 0, .string ⟨#[]⟩, .slice none 0 0, .string ⟨#[]⟩] 24 (0, 0)) (.cells #[.int .i64 k, .int .i64 c, .int .i64 i, .string t, .slice aa (OL l n vs K j).length ca, .string p] 24 (0, 0)) (OL l n vs K j) (.slice aa (OL l n vs K j).length ca) wr)) (fun _ iv _ _ => l.length + 1 - (intOf iv).toNat)
  case atStart => exact ⟨0, none, 0, by omega, by simp, rfl, by rw [HO0.out]; exact HI0⟩
  case round =>
    obtain ⟨j, aa, ca, hj, hpv, rfl, HR⟩ := hrel
    have z4 : wr.cell? ⟨w.heap.size, 4, none⟩ = some (.slice ao l.length co) := Lib.cell_of_heap HR.out.x0 4
    have HJL := hide (HLE.out j hj)
    by_cases hle : j ≤ l.length
    · have hle' : (j : Int) ≤ l.length := by omega
      rcases Nat.lt_trichotomy j K with hjk | hjk | hjk
      · have hlt : j < l.length := by omega
        have hlt' : (j : Int) < l.length := by omega
        have hne' : ((j : Int) == l.length) = false := by simp; omega
        have HPN : decide (K < j + 1) = false := by simp; omega
        obtain rfl : _ = Value.bool false := hpv.trans (by rw [decide_eq_false (by omega)])
        clear hpv
        obtain ⟨b, o, rfl, hb, hcell⟩ := opts_here HL.out hlt
        have hk1 : wr.cell? ⟨b, o + j * 2, none⟩ = some (.int .i64 l[j].1) := by rw [HR.out.bel.cell (p := ⟨b, _, none⟩) hb]; exact (hcell j hlt).1
        have hk2 : wr.cell? ⟨b, o + j * 2 + 1, none⟩ = some (.string l[j].2) := by rw [HR.out.bel.cell (p := ⟨b, _, none⟩) hb]; exact (hcell j hlt).2
        obtain ⟨hle1, hst⟩ := HLO.out j hlt hjk
        have HST := hide hst
        clear hcell hst HLO HHI HAT HMI HLA HPA HEN HLE HC HD0 HD1
        generalize l[j] = x at *
        obtain ⟨y1, y2⟩ := x
        simp only at hk1 hk2 HST hle1
        have hgt : decide (n < y1) = false := by simp; omega
        generalize OL l n vs K j = X at *
        by_cases hyn : y1 = n
        · have HQ : Hid (OL l n vs K (j + 1) = X) := by have := HST.out; rw [if_pos hyn, List.append_nil] at this; exact this
          have hyn' : (y1 != n) = false := by simp [hyn]
          clear HST
          go_wp2
          go_roundw
          case rel => exact ⟨j + 1, aa, ca, by omega, by rw [HPN], by go_num, by rw [HQ.out]; exact HR⟩
          case measure => simp [intOf] <;> omega
        · have HQ : Hid (OL l n vs K (j + 1) = X ++ [(y1, y2)]) := by have := HST.out; rw [if_neg hyn] at this; exact this
          have hyn' : (y1 != n) = true := by simp [hyn]
          have hne3 : b ≠ wr.heap.size := by have := HR.out.lt; omega
          clear HST
          have v4 : wr.cell? ⟨w.heap.size + 1 + 1, 4, none⟩ = some (.slice aa X.length ca) := Lib.cell_of_heap HR.out.x2 4
          have hltr := HR.out.lt
          have hne1 : w.heap.size ≠ wr.heap.size := by omega
          have hne2 : w.heap.size + 1 + 1 ≠ wr.heap.size := by omega
          have HL100 : Hid (X.length ≤ 100) := by show _ ≤ _; have := HJL.out; omega
          go_upto_region 14 with fail
          go_region_law (first
              | (refine stepBr (w := w) (L := X) (by rfl) _ _ (by rfl) (by rfl) _ (by rfl) (HR.out.drew.alloc _) y1 y2 (oblk1 rfl) HL100.out ?_; intro g cap wz IZ; have izf : wz.frozen? ⟨w.heap.size + 1 + 1, 4, none⟩ = false := Lib.frozen_of_heap IZ.x2 4; have izc : wz.cell? ⟨w.heap.size + 1 + 1, 4, none⟩ = some (.slice aa X.length ca) := Lib.cell_of_heap IZ.x2 4)
              | fail)
          all_goals
            have HIZ := hide IZ.set
            go_wp2
            go_roundw
            case rel => exact ⟨j + 1, some ⟨g, 0, none⟩, cap, by omega, by rw [HPN], by go_num, by rw [HQ.out, List.length_append]; exact HIZ.out⟩
            case measure => simp [intOf] <;> omega
      · subst hjk
        have HPN : decide (j < j + 1) = true := by simp
        obtain rfl : _ = Value.bool false := hpv.trans (by rw [decide_eq_false (by omega)])
        clear hpv
        rw [HAT.out] at HR
        clear HLO HHI HAT HPA HEN HLE HC HD0 HD1
        generalize l.filter (fun o => decide (o.1 < n)) = X0 at *
        by_cases hlt : j < l.length
        · have hlt' : (j : Int) < l.length := by omega
          have hne' : ((j : Int) == l.length) = false := by simp; omega
          obtain ⟨b, o, rfl, hb, hcell⟩ := opts_here HL.out hlt
          have hk1 : wr.cell? ⟨b, o + j * 2, none⟩ = some (.int .i64 l[j].1) := by rw [HR.out.bel.cell (p := ⟨b, _, none⟩) hb]; exact (hcell j hlt).1
          have hk2 : wr.cell? ⟨b, o + j * 2 + 1, none⟩ = some (.string l[j].2) := by rw [HR.out.bel.cell (p := ⟨b, _, none⟩) hb]; exact (hcell j hlt).2
          have hw1 := hide (hcell j hlt).1
          have hw2 := hide (hcell j hlt).2
          obtain ⟨hgt1, hst⟩ := HMI.out hlt
          have HQ := hide hst
          clear hcell hst HMI HLA
          generalize l[j] = x at *
          obtain ⟨y1, y2⟩ := x
          simp only at hk1 hk2 HQ hgt1 hw1 hw2
          have hgt : decide (n < y1) = true := by simp; omega
          have hyn : ¬ y1 = n := by omega
          have hyn' : (y1 != n) = true := by simp [hyn]
          go_wp2_with fail
          go_loopw [11] (fun kv wr => ∃ (q : Nat) (ab : Option Addr) (cb : Nat), q ≤ vs.length ∧ kv = .int .i64 q ∧ Hid (Br w (.cells #[.int .i64 k, .int .i64 c, .int .i64 i, .string t, .slice (some ⟨b, o, none⟩) l.length co, .string p] 24 (0, 0)) (.cells #[.int .i64 0, .int .i64 0, .int .i64 0, .string ⟨#[]⟩, .slice none 0 0, .string ⟨#[]⟩] 24 (0, 0)) (.cells #[.int .i64 k, .int .i64 c, .int .i64 i, .string t, .slice ab (XV vs X0 n q).length cb, .string p] 24 (0, 0)) (XV vs X0 n q) (.slice ab (XV vs X0 n q).length cb) wr)) (fun kv _ => vs.length - (intOf kv).toNat)
          case atStart => exact ⟨0, aa, ca, by omega, rfl, by rw [XV_zero]; exact HR⟩
          case round =>
            obtain ⟨W2, hW2⟩ : ∃ W, W = wr := ⟨_, rfl⟩
            subst hW2
            obtain ⟨q, ab, cb, hq, rfl, HR2⟩ := hrel
            clear HR z4 HJL
            by_cases hql : q < vs.length
            · have hql' : (q : Int) < vs.length := by omega
              obtain ⟨vb, vo, rfl, hvb, hvc⟩ := strs_here HS.out hql
              have hv : W2.cell? ⟨vb, vo + q, none⟩ = some (.string vs[q]) := by rw [HR2.out.bel.cell (p := ⟨vb, _, none⟩) hvb]; exact hvc q hql
              have HQ2 := hide (XV_succ X0 n hql)
              have HX2 : Hid ((XV vs X0 n q).length ≤ 100) := by
                show _ ≤ _
                have h1 := XV_len vs X0 n q
                have h2 := HFL.out
                omega
              have hne4 : vb ≠ W2.heap.size := by have := HR2.out.lt; omega
              clear hvc HS
              generalize vs[q] = s at *
              generalize XV vs X0 n q = X2 at *
              have v4 : W2.cell? ⟨w.heap.size + 1 + 1, 4, none⟩ = some (.slice ab X2.length cb) := Lib.cell_of_heap HR2.out.x2 4
              have hltr := HR2.out.lt
              have hne1 : w.heap.size ≠ W2.heap.size := by omega
              have hne2 : w.heap.size + 1 + 1 ≠ W2.heap.size := by omega
              have HL100 : Hid (X2.length ≤ 100) := by show _ ≤ _; exact HX2.out
              go_upto_region 11 with fail
              go_region_law (first
                  | (refine stepBr (w := w) (L := X2) (by rfl) _ _ (by rfl) (by rfl) _ (by rfl) (HR2.out.drew.alloc _) n s (oblk1 rfl) HL100.out ?_; intro g cap wz IZ; have izf : wz.frozen? ⟨w.heap.size + 1 + 1, 4, none⟩ = false := Lib.frozen_of_heap IZ.x2 4; have izc : wz.cell? ⟨w.heap.size + 1 + 1, 4, none⟩ = some (.slice ab X2.length cb) := Lib.cell_of_heap IZ.x2 4)
                  | fail)
              all_goals
                have HIZ := hide IZ.set
                go_wp2
                go_roundw
                case rel => exact ⟨q + 1, some ⟨g, 0, none⟩, cap, by omega, by go_num, by rw [HQ2.out, List.length_append]; exact HIZ.out⟩
                case measure => simp [intOf] <;> omega
            · obtain rfl : q = vs.length := by omega
              have hge2 : (vs.length : Int) ≤ vs.length := Int.le_refl _
              rw [XV_all] at HR2
              have z4 : W2.cell? ⟨w.heap.size, 4, none⟩ = some (.slice (some ⟨b, o, none⟩) l.length co) := Lib.cell_of_heap HR2.out.x0 4
              have hk1 : W2.cell? ⟨b, o + j * 2, none⟩ = some (.int .i64 y1) := (HR2.out.bel.cell (p := ⟨b, _, none⟩) hb).trans hw1.out
              have hk2 : W2.cell? ⟨b, o + j * 2 + 1, none⟩ = some (.string y2) := (HR2.out.bel.cell (p := ⟨b, _, none⟩) hb).trans hw2.out
              have HX3 : Hid ((X0 ++ vs.map (fun v => (n, v))).length ≤ 100) := by
                show _ ≤ _
                rw [List.length_append, List.length_map]
                have h2 := HFL.out
                omega
              have hne3 : b ≠ W2.heap.size := by have := HR2.out.lt; omega
              clear HS
              generalize X0 ++ vs.map (fun v => (n, v)) = X1 at *
              have v4 : W2.cell? ⟨w.heap.size + 1 + 1, 4, none⟩ = some (.slice ab X1.length cb) := Lib.cell_of_heap HR2.out.x2 4
              have hltr := HR2.out.lt
              have hne1 : w.heap.size ≠ W2.heap.size := by omega
              have hne2 : w.heap.size + 1 + 1 ≠ W2.heap.size := by omega
              have HL100 : Hid (X1.length ≤ 100) := by show _ ≤ _; exact HX3.out
              go_upto_region 14 with fail
              go_region_law (first
                  | (refine stepBr (w := w) (L := X1) (by rfl) _ _ (by rfl) (by rfl) _ (by rfl) (HR2.out.drew.alloc _) y1 y2 (oblk1 rfl) HL100.out ?_; intro g cap wz IZ; have izf : wz.frozen? ⟨w.heap.size + 1 + 1, 4, none⟩ = false := Lib.frozen_of_heap IZ.x2 4; have izc : wz.cell? ⟨w.heap.size + 1 + 1, 4, none⟩ = some (.slice ab X1.length cb) := Lib.cell_of_heap IZ.x2 4)
                  | fail)
              all_goals
                have HIZ := hide IZ.set
                go_wp2
                go_roundw
                case rel => exact ⟨j + 1, some ⟨g, 0, none⟩, cap, by omega, by rw [HPN], by go_num, by rw [HQ.out, List.length_append]; exact HIZ.out⟩
                case measure => simp [intOf] <;> omega
        · obtain rfl : j = l.length := by omega
          have HQ := hide (HLA.out rfl)
          have hge : (l.length : Int) ≤ l.length := Int.le_refl _
          clear HMI HLA hlt
          go_wp2_with fail
          go_loopw [11] (fun kv wr => ∃ (q : Nat) (ab : Option Addr) (cb : Nat), q ≤ vs.length ∧ kv = .int .i64 q ∧ Hid (Br w (.cells #[.int .i64 k, .int .i64 c, .int .i64 i, .string t, .slice ao l.length co, .string p] 24 (0, 0)) (.cells #[.int .i64 0, .int .i64 0, .int .i64 0, .string ⟨#[]⟩, .slice none 0 0, .string ⟨#[]⟩] 24 (0, 0)) (.cells #[.int .i64 k, .int .i64 c, .int .i64 i, .string t, .slice ab (XV vs X0 n q).length cb, .string p] 24 (0, 0)) (XV vs X0 n q) (.slice ab (XV vs X0 n q).length cb) wr)) (fun kv _ => vs.length - (intOf kv).toNat)
          case atStart => exact ⟨0, aa, ca, by omega, rfl, by rw [XV_zero]; exact HR⟩
          case round =>
            obtain ⟨W2, hW2⟩ : ∃ W, W = wr := ⟨_, rfl⟩
            subst hW2
            obtain ⟨q, ab, cb, hq, rfl, HR2⟩ := hrel
            clear HR z4 HJL
            by_cases hql : q < vs.length
            · have hql' : (q : Int) < vs.length := by omega
              obtain ⟨vb, vo, rfl, hvb, hvc⟩ := strs_here HS.out hql
              have hv : W2.cell? ⟨vb, vo + q, none⟩ = some (.string vs[q]) := by rw [HR2.out.bel.cell (p := ⟨vb, _, none⟩) hvb]; exact hvc q hql
              have HQ2 := hide (XV_succ X0 n hql)
              have HX2 : Hid ((XV vs X0 n q).length ≤ 100) := by
                show _ ≤ _
                have h1 := XV_len vs X0 n q
                have h2 := HFL.out
                omega
              have hne4 : vb ≠ W2.heap.size := by have := HR2.out.lt; omega
              clear hvc HS
              generalize vs[q] = s at *
              generalize XV vs X0 n q = X2 at *
              have v4 : W2.cell? ⟨w.heap.size + 1 + 1, 4, none⟩ = some (.slice ab X2.length cb) := Lib.cell_of_heap HR2.out.x2 4
              have hltr := HR2.out.lt
              have hne1 : w.heap.size ≠ W2.heap.size := by omega
              have hne2 : w.heap.size + 1 + 1 ≠ W2.heap.size := by omega
              have HL100 : Hid (X2.length ≤ 100) := by show _ ≤ _; exact HX2.out
              go_upto_region 11 with fail
              go_region_law (first
                  | (refine stepBr (w := w) (L := X2) (by rfl) _ _ (by rfl) (by rfl) _ (by rfl) (HR2.out.drew.alloc _) n s (oblk1 rfl) HL100.out ?_; intro g cap wz IZ; have izf : wz.frozen? ⟨w.heap.size + 1 + 1, 4, none⟩ = false := Lib.frozen_of_heap IZ.x2 4; have izc : wz.cell? ⟨w.heap.size + 1 + 1, 4, none⟩ = some (.slice ab X2.length cb) := Lib.cell_of_heap IZ.x2 4)
                  | fail)
              all_goals
                have HIZ := hide IZ.set
                go_wp2
                go_roundw
                case rel => exact ⟨q + 1, some ⟨g, 0, none⟩, cap, by omega, by go_num, by rw [HQ2.out, List.length_append]; exact HIZ.out⟩
                case measure => simp [intOf] <;> omega
            · obtain rfl : q = vs.length := by omega
              have hge2 : (vs.length : Int) ≤ vs.length := Int.le_refl _
              rw [XV_all] at HR2
              have z4 : W2.cell? ⟨w.heap.size, 4, none⟩ = some (.slice ao l.length co) := Lib.cell_of_heap HR2.out.x0 4
              clear HS
              generalize X0 ++ vs.map (fun v => (n, v)) = X1 at *
              go_wp2
              go_roundw
              case rel => exact ⟨l.length + 1, ab, cb, by omega, by rw [HPN], by go_num, by rw [HQ.out]; exact HR2⟩
              case measure => simp [intOf] <;> omega
      · have HPN : decide (K < j + 1) = true := by simp; omega
        obtain rfl : _ = Value.bool true := hpv.trans (by rw [decide_eq_true hjk])
        clear hpv
        by_cases hlt : j < l.length
        · have hlt' : (j : Int) < l.length := by omega
          obtain ⟨b, o, rfl, hb, hcell⟩ := opts_here HL.out hlt
          have hk1 : wr.cell? ⟨b, o + j * 2, none⟩ = some (.int .i64 l[j].1) := by rw [HR.out.bel.cell (p := ⟨b, _, none⟩) hb]; exact (hcell j hlt).1
          have hk2 : wr.cell? ⟨b, o + j * 2 + 1, none⟩ = some (.string l[j].2) := by rw [HR.out.bel.cell (p := ⟨b, _, none⟩) hb]; exact (hcell j hlt).2
          obtain ⟨hgt1, hst⟩ := HHI.out j hlt hjk
          have HQ := hide hst
          clear hcell hst HLO HHI HAT HMI HLA HPA HEN HLE HC HD0 HD1
          generalize l[j] = x at *
          obtain ⟨y1, y2⟩ := x
          simp only at hk1 hk2 HQ hgt1
          have hyn : ¬ y1 = n := by omega
          have hyn' : (y1 != n) = true := by simp [hyn]
          generalize OL l n vs K j = X at *
          have hne3 : b ≠ wr.heap.size := by have := HR.out.lt; omega
          have v4 : wr.cell? ⟨w.heap.size + 1 + 1, 4, none⟩ = some (.slice aa X.length ca) := Lib.cell_of_heap HR.out.x2 4
          have hltr := HR.out.lt
          have hne1 : w.heap.size ≠ wr.heap.size := by omega
          have hne2 : w.heap.size + 1 + 1 ≠ wr.heap.size := by omega
          have HL100 : Hid (X.length ≤ 100) := by show _ ≤ _; have := HJL.out; omega
          go_upto_region 14 with fail
          go_region_law (first
              | (refine stepBr (w := w) (L := X) (by rfl) _ _ (by rfl) (by rfl) _ (by rfl) (HR.out.drew.alloc _) y1 y2 (oblk1 rfl) HL100.out ?_; intro g cap wz IZ; have izf : wz.frozen? ⟨w.heap.size + 1 + 1, 4, none⟩ = false := Lib.frozen_of_heap IZ.x2 4; have izc : wz.cell? ⟨w.heap.size + 1 + 1, 4, none⟩ = some (.slice aa X.length ca) := Lib.cell_of_heap IZ.x2 4)
              | fail)
          all_goals
            have HIZ := hide IZ.set
            go_wp2
            go_roundw
            case rel => exact ⟨j + 1, some ⟨g, 0, none⟩, cap, by omega, by rw [HPN], by go_num, by rw [HQ.out, List.length_append]; exact HIZ.out⟩
            case measure => simp [intOf] <;> omega
        · obtain rfl : j = l.length := by omega
          have hge : (l.length : Int) ≤ (l.length : Int) := Int.le_refl _
          have HQ := hide (HPA.out hjk)
          clear HLO HHI HAT HMI HLA HPA HEN HLE HC HD0 HD1 hlt
          go_wp2
          go_roundw
          case rel => exact ⟨l.length + 1, aa, ca, by omega, by rw [HPN], by go_num, by rw [HQ.out]; exact HR⟩
          case measure => simp [intOf] <;> omega
    · obtain rfl : j = l.length + 1 := by omega
      rw [HEN.out] at HR
      have hge : (l.length : Int) < ((l.length + 1 : Nat) : Int) := by omega
      have q0 : ∀ o, wr.cell? ⟨w.heap.size + 1 + 1, o, none⟩ = (#[.int .i64 k, .int .i64 c, .int .i64 i, .string t, .slice aa l2.length ca, .string p] : Array Value)[o]? := fun o => Lib.cell_of_heap HR.out.x2 o
      have HOW : Hid (OptsIn wr aa l2) := own_ops HR.out.row rfl
      have HFR : Hid (l2 = [] ∨ ∃ g o, aa = some ⟨g, o, none⟩ ∧ w.heap.size ≤ g) := by
        rcases orow_form HR.out.row with ⟨_, h, _⟩ | ⟨g, h, _⟩
        · exact .inl (List.length_eq_zero_iff.1 h)
        · exact .inr ⟨g, 0, h, by have := (oown_at HR.out.row (g := g) (by rw [h]; rfl)).1; omega⟩
      clear HLO HHI HAT HMI HLA HPA HEN HLE hle
      go_wp2_with fail
      refine (HC.out _ _ _ HOW.out).mono ?_
      rintro e wq ⟨rfl, hbq⟩
      have HR := hide (HR.out.step hbq)
      clear hbq HOW q0 HC
      have q0 : ∀ o, wq.cell? ⟨w.heap.size + 1 + 1, o, none⟩ = (#[.int .i64 k, .int .i64 c, .int .i64 i, .string t, .slice aa l2.length ca, .string p] : Array Value)[o]? := fun o => Lib.cell_of_heap HR.out.x2 o
      have q1 : ∀ o, wq.cell? ⟨w.heap.size + 1, o, none⟩ = (#[.int .i64 0, .int .i64 0, .int .i64 0, .string ⟨#[]⟩, .slice none 0 0, .string ⟨#[]⟩] : Array Value)[o]? := fun o => Lib.cell_of_heap HR.out.x1 o
      have f1 : ∀ o, wq.frozen? ⟨w.heap.size + 1, o, none⟩ = false := fun o => Lib.frozen_of_heap HR.out.x1 o
      by_cases hE : E = 0
      · have HDQ := hide (HD0.out hE)
        have hE' : (E != 0) = false := by simp [hE]
        subst hE
        have HO : Hid (OptsIn (set6 wq (w.heap.size + 1) (.int .i64 k) (.int .i64 c) (.int .i64 i) (.string t) (.slice aa l2.length ca) (.string p)) aa l2) := own_ops (oown_kept HR.out.row fun g hg => set6_other _ _ _ _ _ _ _ _ (by have := (oown_at HR.out.row hg).1; omega)) rfl
        have HBE := hide (set6_below HR.out.bel (show w.heap.size ≤ w.heap.size + 1 by omega) (.int .i64 k) (.int .i64 c) (.int .i64 i) (.string t) (.slice aa l2.length ca) (.string p))
        clear HD0 HD1
        go_wp2
        exact bodyPost_ret (v := .tuple #[.agg #[.int .i64 k, .int .i64 c, .int .i64 i, .string t, .slice aa l2.length ca, .string p], .int .i64 0]) (by simp [results, Tryd.results20, go_sem, World.cell?_setCell_same, q1]) rfl ⟨aa, ca, by rw [HDQ.out]; rfl, by rw [HDQ.out]; exact HO.out, by rw [HDQ.out]; exact HFR.out, HBE.out⟩
      · have HDQ := hide (HD1.out hE)
        have hE' : (E != 0) = true := by simp [hE]
        have HBE := hide (set6_below HR.out.bel (show w.heap.size ≤ w.heap.size + 1 by omega) (.int .i64 0) (.int .i64 0) (.int .i64 0) (.string ⟨#[]⟩) (.slice none 0 0) (.string ⟨#[]⟩))
        clear HD0 HD1 hE
        go_wp2
        exact bodyPost_ret (v := .tuple #[.agg #[.int .i64 0, .int .i64 0, .int .i64 0, .string ⟨#[]⟩, .slice none 0 0, .string ⟨#[]⟩], .int .i64 E]) (by simp [results, Tryd.results20, go_sem, World.cell?_setCell_same, q1]) rfl ⟨none, 0, by rw [HDQ.out]; rfl, by rw [HDQ.out]; exact .inl rfl, .inl (by rw [HDQ.out]; rfl), HBE.out⟩
end Go.Proofs.YtgmjdelgocbcaacDoor
