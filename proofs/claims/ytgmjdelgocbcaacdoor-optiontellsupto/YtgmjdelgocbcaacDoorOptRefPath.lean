/-
  The reference's PathOf: what it answers.
-/
import Derived.Test.YtgmjdelgocbcaacDoorOptRefUint
import Derived.Test.YtgmjdelgocbcaacDoorOptPath
import Derived.Test.YtgmjdelgocbcaacDoorOptBegun
import Derived.Test.YtgmjdelgocbcaacDoorTopicCheckWalk
namespace Go.Proofs.YtgmjdelgocbcaacDoor
open Go.RowKit Go.PlainAid

def slV (V : List ByteArray) : Bool := V.any (fun v => decide (1 < (LV v).length))
theorem join_snoc (xs : List (List UInt8)) (x : List UInt8) : Lib.join (xs ++ [x]) [47] = if xs = [] then x else Lib.join xs [47] ++ [47] ++ x := by
  cases xs with
  | nil => rw [if_pos rfl, List.nil_append, Lib.join_one]
  | cons a r =>
    rw [if_neg (by simp), List.cons_append, Lib.join_cons, Lib.join_cons]
    simp [Lib.joinTail, List.append_assoc]
theorem joinS_snoc (V : List ByteArray) (v : ByteArray) : joinS (V ++ [v]) = if V = [] then v else joinS V ++ ⟨#[47]⟩ ++ v := by
  unfold joinS
  rw [List.map_append, List.map_cons, List.map_nil, join_snoc]
  by_cases h : V = []
  · subst h; simp
  · rw [if_neg (by simpa using h), if_neg h]
    apply ByteArray.ext
    simp
theorem joinS_size (V : List ByteArray) (h : ∀ v ∈ V, v.size ≤ 60) : (joinS V).size ≤ 61 * V.length := by
  have := join_len (V.map (·.data.toList)) (fun x hx => by
    obtain ⟨y, hy, rfl⟩ := List.mem_map.1 hx
    have := h y hy
    simpa using this)
  rw [List.length_map] at this
  show (Lib.join (V.map (·.data.toList)) [47]).toArray.size ≤ _
  simpa using this
theorem count_tail (r : List ByteArray) : (Lib.joinTail [47] (r.map (·.data.toList))).count 47 = r.length + (r.map (fun v => v.data.toList.count 47)).sum := by
  induction r with
  | nil => rfl
  | cons a r ih =>
    simp only [Lib.joinTail, List.map_cons, List.flatten_cons, List.count_append, List.length_cons, List.sum_cons] at ih ⊢
    rw [ih]
    have : List.count 47 [(47 : UInt8)] = 1 := rfl
    omega
theorem count_join (V : List ByteArray) (h : V ≠ []) : (joinS V).data.toList.count 47 + 1 = V.length + (V.map (fun v => v.data.toList.count 47)).sum := by
  cases V with
  | nil => exact absurd rfl h
  | cons a r =>
    show (Lib.join ((a :: r).map (·.data.toList)) [47]).toArray.toList.count 47 + 1 = _
    rw [List.map_cons, Lib.join_cons]
    simp only [List.count_append, count_tail, List.length_cons, List.map_cons, List.sum_cons]
    omega
theorem sl_count (V : List ByteArray) : slV V = true ↔ 0 < (V.map (fun v => v.data.toList.count 47)).sum := by
  induction V with
  | nil => simp [slV]
  | cons a r ih =>
    have h := LV_length a
    have hc : Lib.countB a ⟨#[47]⟩ = a.data.toList.count 47 := Lib.count_one 47 _
    simp only [slV, List.any_cons, Bool.or_eq_true, decide_eq_true_eq, List.map_cons, List.sum_cons] at ih ⊢
    rw [ih]
    omega
theorem pthE_ref (V : List ByteArray) (h : V ≠ []) : pthE V = if chk nameF (joinS V) ≠ 0 then chk nameF (joinS V) else if slV V = true then 1 else 0 := by
  rw [pthE, if_neg h]
  have h1 := count_join V h
  have h2 := sl_count V
  have e : ((Lib.countByte (joinS V).data.toList 47 : Int) ≠ V.length - 1) ↔ slV V = true := by
    rw [h2]
    show (((joinS V).data.toList.count 47 : Nat) : Int) ≠ _ ↔ _
    omega
  by_cases hs : slV V = true
  · rw [if_pos hs, if_pos (e.2 hs)]
  · rw [if_neg hs, if_neg (fun h => hs (e.1 h))]
theorem sl_snoc (V : List ByteArray) (v : ByteArray) : slV (V ++ [v]) = (slV V || decide (1 < (LV v).length)) := by
  simp [slV, List.any_append]
theorem vals_take {m : Mg} (h : chkM m = 0) (n : Int) (j : Nat) : (∀ v ∈ valsL (m.opts.take j) n, v.size ≤ 60) ∧ (valsL (m.opts.take j) n).length ≤ 12 := by
  constructor
  · intro v hv
    obtain ⟨o, ho, rfl⟩ := List.mem_map.1 hv
    exact chk_sizes h o (List.mem_of_mem_take (List.mem_filter.1 ho).1)
  · unfold valsL
    rw [List.length_map]
    refine Nat.le_trans (List.length_filter_le _ _) ?_
    rw [List.length_take]
    have := (chkM_ok h).2.2.2.2.1
    omega

set_option maxHeartbeats 8000000 in
set_option maxRecDepth 100000 in
theorem pathOf_any (m : Mg) (ao : Option Addr) (co : Nat) (w : World) (hl : OptsIn w ao m.opts) (hc : chkM m = 0) :
    Calls Tryd.prog 15 #[mgV m ao co] w fun e w' => e = .returned (.tuple #[.string (pathS m), .int .i64 (pathE m)]) ∧ Below w.heap.size w w' := by
  have h12 := (chkM_ok hc).2.2.2.2.1
  have HL := hide hl
  have HF : Hid (∀ k (h : k < m.opts.length), valsL (m.opts.take (k + 1)) 11 = valsL (m.opts.take k) 11 ++ (if m.opts[k].1 = 11 then [m.opts[k].2] else [])) := fun k h => vals_snoc _ _ k h
  have HZ : Hid (∀ k (h : k < m.opts.length), m.opts[k].2.size ≤ 60) := fun k h => chk_sizes hc _ (List.getElem_mem h)
  have HY : Hid (∀ j, (joinS (valsL (m.opts.take j) 11)).size ≤ 800 ∧ (valsL (m.opts.take j) 11).length ≤ 12) := fun j => by
    have h := vals_take hc 11 j
    have := joinS_size _ h.1
    exact ⟨by omega, h.2⟩
  have HPE : Hid (pathE m = if valsL m.opts 11 = [] then 5 else if chk nameF (joinS (valsL m.opts 11)) ≠ 0 then chk nameF (joinS (valsL m.opts 11)) else if slV (valsL m.opts 11) = true then 1 else 0) := by
    show _ = _
    rw [pathE, if_neg (by simp [hc])]
    by_cases h : valsL m.opts 11 = []
    · rw [if_pos h, pthE, if_pos h]
    · rw [if_neg h, pthE_ref _ h]
  have HPS : Hid (pathS m = if pathE m = 0 then joinS (valsL m.opts 11) else ⟨#[]⟩) := rfl
  have CT : Hid (∀ s W, s.size ≤ 1048576 → Calls Tryd.prog 16 #[.string s, .bool false] W fun e w' => e = .returned (.int .i64 (chk nameF s)) ∧ Below W.heap.size W w') := fun s W h => checkTopic_any s false W h
  clear hl hc
  generalize pathE m = PE at *
  generalize pathS m = PS at *
  obtain ⟨k, c, i, t, l, p⟩ := m
  simp only [mgV] at *
  have HX0 : Hid (Below w.heap.size w (w.alloc (.cells #[.int .i64 k, .int .i64 c, .int .i64 i, .string t, .slice ao l.length co, .string p] 24)) ∧ (w.alloc (.cells #[.int .i64 k, .int .i64 c, .int .i64 i, .string t, .slice ao l.length co, .string p] 24)).heap[w.heap.size]? = some (.cells #[.int .i64 k, .int .i64 c, .int .i64 i, .string t, .slice ao l.length co, .string p] 24 (0, 0))) := ⟨(Below.refl w.heap.size w).alloc (Nat.le_refl _) _, Go.heap_alloc_new w _⟩
  go_enter Tryd.func15, Tryd.ntmps15
  go_upto_region 1 with fail
  revert HX0
  generalize w.alloc (.cells #[.int .i64 k, .int .i64 c, .int .i64 i, .string t, .slice ao l.length co, .string p] 24) = W0
  intro HX0
  go_wp2_with fail
  go_loopw [4, 5, 6, 7, 8] (fun sv mv bv iv _ wr => ∃ j : Nat, j ≤ l.length ∧ sv = .string (joinS (valsL (l.take j) 11)) ∧ mv = .int .i64 ((valsL (l.take j) 11).length : Nat) ∧ bv = .bool (slV (valsL (l.take j) 11)) ∧ iv = .int .i64 j ∧ Hid (Below w.heap.size w wr ∧ wr.heap[w.heap.size]? = some (.cells #[.int .i64 k, .int .i64 c, .int .i64 i, .string t, .slice ao l.length co, .string p] 24 (0, 0)))) (fun _ _ _ iv _ _ => l.length - (intOf iv).toNat)
  case atStart => exact ⟨0, by omega, rfl, rfl, rfl, rfl, HX0⟩
  case round =>
    obtain ⟨j, hj, rfl, rfl, rfl, rfl, HR⟩ := hrel
    have z4 : wr.cell? ⟨w.heap.size, 4, none⟩ = some (.slice ao l.length co) := Lib.cell_of_heap HR.out.2 4
    obtain ⟨hS, hN⟩ := HY.out j
    by_cases hlt : j < l.length
    · have hlt' : (j : Int) < l.length := by omega
      obtain ⟨b, o, rfl, hb, hcell⟩ := opts_here HL.out hlt
      have hk1 : wr.cell? ⟨b, o + j * 2, none⟩ = some (.int .i64 l[j].1) := by rw [HR.out.1.cell (p := ⟨b, _, none⟩) hb]; exact (hcell j hlt).1
      have hk2 : wr.cell? ⟨b, o + j * 2 + 1, none⟩ = some (.string l[j].2) := by rw [HR.out.1.cell (p := ⟨b, _, none⟩) hb]; exact (hcell j hlt).2
      have HSN := hide (HF.out j hlt)
      have hy2 := HZ.out j hlt
      clear hcell HF HZ HY HPE HPS CT
      generalize l[j] = x at *
      obtain ⟨y1, y2⟩ := x
      simp only at hk1 hk2 HSN hy2
      by_cases hyn : y1 = 11
      · have HQ : Hid (valsL (l.take (j + 1)) 11 = valsL (l.take j) 11 ++ [y2]) := by have := HSN.out; rw [if_pos hyn] at this; exact this
        have hyn' : (y1 != 11) = false := by simp [hyn]
        have HJ0 : Hid ((valsL (l.take j) 11).length = 0 → joinS (valsL (l.take (j + 1)) 11) = joinS (valsL (l.take j) 11) ++ y2) := fun h => by
          have e := List.length_eq_zero_iff.1 h
          rw [HQ.out, joinS_snoc, if_pos e, e]
          apply ByteArray.ext
          simp [joinS, Lib.join_nil]
        have HJ1 : Hid (¬ (valsL (l.take j) 11).length = 0 → joinS (valsL (l.take (j + 1)) 11) = joinS (valsL (l.take j) 11) ++ ⟨#[47]⟩ ++ y2) := fun h => by
          rw [HQ.out, joinS_snoc, if_neg (fun e => h (by rw [e]; rfl))]
        have HJN : Hid ((valsL (l.take (j + 1)) 11).length = (valsL (l.take j) 11).length + 1) := by show _ = _; rw [HQ.out, List.length_append]; rfl
        have HJS : Hid (slV (valsL (l.take (j + 1)) 11) = (slV (valsL (l.take j) 11) || decide (1 < (LV y2).length))) := by show _ = _; rw [HQ.out, sl_snoc]
        have CL : Hid (∀ W, Calls Tryd.prog 21 #[.string y2] W fun e w' => ∃ g cap, e = .returned (.slice (some ⟨g, 0, none⟩) (LV y2).length cap) ∧ (LV y2).length ≤ cap ∧ (∀ k (h : k < (LV y2).length), w'.cell? ⟨g, k, none⟩ = some (.string (LV y2)[k])) ∧ Below W.heap.size W w') := fun W => levelsOf_any y2 W (by omega)
        have hLV : (LV y2).length ≤ 61 := LV_len60 y2 hy2
        clear HSN HQ hyn
        generalize joinS (valsL (l.take j) 11) = S at *
        generalize slV (valsL (l.take j) 11) = B at *
        generalize (valsL (l.take j) 11).length = N at *
        by_cases hN0 : N = 0
        · have hg : decide ((0 : Int) < N) = false := by simp; omega
          have HJ := hide (HJ0.out hN0)
          clear HJ0 HJ1
          cases B with
          | false =>
            go_wp2_with fail
            refine (CL.out _).mono ?_
            rintro e w2 ⟨g, cap, rfl, hc1, hc2, hb2⟩
            have HR2 := hide (And.intro (below_step HR.out.1 hb2) (box_step HR.out.2 hb2))
            clear hb2 HR z4 hk1 hk2 CL hc1 hc2
            generalize (LV y2).length = NL at *
            go_wp2
            go_roundw
            case rel => exact ⟨j + 1, by omega, by rw [HJ.out], by rw [HJN.out]; first | go_num | (rw [hN0]; rfl) | (simp [hN0]; done), by rw [HJS.out]; first | (simp; done) | (congr 1; simp; omega), by go_num, HR2⟩
            case measure => simp [intOf] <;> omega
          | true =>
            clear CL
            go_wp2
            go_roundw
            case rel => exact ⟨j + 1, by omega, by rw [HJ.out], by rw [HJN.out]; first | go_num | (rw [hN0]; rfl) | (simp [hN0]; done), by rw [HJS.out]; first | (simp; done) | rfl, by go_num, HR⟩
            case measure => simp [intOf] <;> omega
        · have hg : decide ((0 : Int) < N) = true := by simp; omega
          have HJ := hide (HJ1.out hN0)
          clear HJ0 HJ1
          cases B with
          | false =>
            go_wp2_with fail
            refine (CL.out _).mono ?_
            rintro e w2 ⟨g, cap, rfl, hc1, hc2, hb2⟩
            have HR2 := hide (And.intro (below_step HR.out.1 hb2) (box_step HR.out.2 hb2))
            clear hb2 HR z4 hk1 hk2 CL hc1 hc2
            generalize (LV y2).length = NL at *
            go_wp2
            go_roundw
            case rel => exact ⟨j + 1, by omega, by rw [HJ.out], by rw [HJN.out]; first | go_num | (rw [hN0]; rfl) | (simp [hN0]; done), by rw [HJS.out]; first | (simp; done) | (congr 1; simp; omega), by go_num, HR2⟩
            case measure => simp [intOf] <;> omega
          | true =>
            clear CL
            go_wp2
            go_roundw
            case rel => exact ⟨j + 1, by omega, by rw [HJ.out], by rw [HJN.out]; first | go_num | (rw [hN0]; rfl) | (simp [hN0]; done), by rw [HJS.out]; first | (simp; done) | rfl, by go_num, HR⟩
            case measure => simp [intOf] <;> omega
      · have HQ : Hid (valsL (l.take (j + 1)) 11 = valsL (l.take j) 11) := by have := HSN.out; rw [if_neg hyn, List.append_nil] at this; exact this
        have hyn' : (y1 != 11) = true := by simp [hyn]
        clear HSN hyn
        go_wp2
        go_roundw
        case rel => exact ⟨j + 1, by omega, by rw [HQ.out], by rw [HQ.out], by rw [HQ.out], by go_num, HR⟩
        case measure => simp [intOf] <;> omega
    · have hge : (l.length : Int) ≤ j := by omega
      have hke : l.take j = l := List.take_of_length_le (by omega)
      rw [hke] at hS hN ⊢
      clear HF HZ HY hlt hke
      have HV0 : Hid ((valsL l 11).length = 0 → valsL l 11 = []) := fun h => List.length_eq_zero_iff.1 h
      have HV1 : Hid (¬ (valsL l 11).length = 0 → valsL l 11 ≠ []) := fun h e => h (by rw [e]; rfl)
      generalize valsL l 11 = V at *
      by_cases hV : V.length = 0
      · have HE5 : Hid (PE = 5) := by have := HPE.out; rw [if_pos (HV0.out hV)] at this; exact this
        have HS5 : Hid (PS = ⟨#[]⟩) := by have := HPS.out; rw [if_neg (by rw [HE5.out]; decide)] at this; exact this
        have hV' : ((V.length : Int) == 0) = true := by simp [hV]
        clear HPE HPS HV0 HV1 CT
        go_wp2
        go_ret2
        exact ⟨by rw [HS5.out, HE5.out]; rfl, HR.out.1⟩
      · have HE1 : Hid (PE = if chk nameF (joinS V) ≠ 0 then chk nameF (joinS V) else if slV V = true then 1 else 0) := by have := HPE.out; rw [if_neg (HV1.out hV)] at this; exact this
        have hV' : ((V.length : Int) == 0) = false := by
          rw [beq_eq_false_iff_ne]; omega
        have CT1 := hide (fun W => CT.out (joinS V) W (show (joinS V).size ≤ 1048576 from Nat.le_trans hS (by decide)))
        clear HPE HV0 HV1 CT
        generalize joinS V = J at *
        generalize slV V = B at *
        generalize V.length = N at *
        generalize chk nameF J = E1 at *
        go_wp2_with fail
        refine (CT1.out _).mono ?_
        rintro e w2 ⟨rfl, hb2⟩
        have HB2 := hide (below_step HR.out.1 hb2)
        clear hb2 HR z4 CT1
        by_cases hE : E1 = 0
        · have hE' : (E1 == 0) = true := by simp [hE]
          have HE2 : Hid (PE = if B = true then 1 else 0) := by have := HE1.out; rw [if_neg (by simp [hE])] at this; exact this
          subst hE
          clear HE1
          cases B with
          | true =>
            have HE3 : Hid (PE = 1) := HE2.out
            have HS3 : Hid (PS = ⟨#[]⟩) := by have := HPS.out; rw [if_neg (by rw [HE3.out]; decide)] at this; exact this
            clear HE2 HPS
            go_wp2
            go_ret2
            exact ⟨by rw [HS3.out, HE3.out]; rfl, HB2.out⟩
          | false =>
            have HE3 : Hid (PE = 0) := HE2.out
            have HS3 : Hid (PS = J) := by have := HPS.out; rw [if_pos HE3.out] at this; exact this
            clear HE2 HPS
            go_wp2
            go_ret2
            exact ⟨by rw [HS3.out, HE3.out]; rfl, HB2.out⟩
        · have hE' : (E1 == 0) = false := by simp [hE]
          have hE'' : (E1 != 0) = true := by simp [hE]
          have HE3 : Hid (PE = E1) := by have := HE1.out; rw [if_pos hE] at this; exact this
          have HS3 : Hid (PS = ⟨#[]⟩) := by have := HPS.out; rw [if_neg (by rw [HE3.out]; exact hE)] at this; exact this
          clear HE1 HPS hE
          go_wp2
          go_ret2
          exact ⟨by rw [HS3.out, HE3.out]; rfl, HB2.out⟩
end Go.Proofs.YtgmjdelgocbcaacDoor
