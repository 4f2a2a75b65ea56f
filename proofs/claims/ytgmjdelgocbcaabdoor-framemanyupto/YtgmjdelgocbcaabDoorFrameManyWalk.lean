/-
  dragomanlaw.FrameMany: its maths, its walk: true, for at most 1048576 packets.
-/
import Derived.Test.YtgmjdelgocbcaabDoorFrameMore
namespace Go.Proofs.YtgmjdelgocbcaabDoor
open Go.RowKit Go.PlainAid

/-- is it right, and short enough? -/
def goodB (q : Lp) : Bool := decide (chkP q.p = 0) && decide ((encP q.p).size ≤ 600)
def catS : List Lp → ByteArray
  | [] => ⟨#[]⟩
  | q :: l => encP q.p ++ catS l
theorem catS_snoc (l : List Lp) (q : Lp) : catS (l ++ [q]) = catS l ++ encP q.p := by
  induction l with
  | nil => show encP q.p ++ ⟨#[]⟩ = ⟨#[]⟩ ++ encP q.p; rw [str_nil]; apply ByteArray.ext; apply Array.toList_inj.1; simp
  | cons a l ih => show encP a.p ++ catS (l ++ [q]) = encP a.p ++ catS l ++ encP q.p; rw [ih, ByteArray.append_assoc]
theorem catS_size (l : List Lp) (h : ∀ q ∈ l, goodB q = true) : (catS l).size ≤ 600 * l.length := by
  induction l with
  | nil => exact Nat.le_refl _
  | cons a l ih =>
    have h1 := ih (fun q hq => h q (List.mem_cons_of_mem _ hq))
    have h2 := h a List.mem_cons_self
    simp only [goodB, Bool.and_eq_true, decide_eq_true_eq] at h2
    show (encP a.p ++ catS l).size ≤ _
    rw [ByteArray.size_append, List.length_cons]
    omega
theorem fd_cat (l : List Lp) (h : ∀ q ∈ l, goodB q = true) : fd (catS l) = (l.map Lp.p, ⟨#[]⟩, 0) := by
  induction l with
  | nil => exact fd_nil rfl
  | cons a l ih =>
    have h1 := ih (fun q hq => h q (List.mem_cons_of_mem _ hq))
    have h2 := h a List.mem_cons_self
    simp only [goodB, Bool.and_eq_true, decide_eq_true_eq] at h2
    show fd (encP a.p ++ catS l) = _
    rw [fd_enc h2.1 h2.2, h1]
    rfl
theorem good_snoc (A : List Lp) (k : Nat) (h : k < A.length) : (A.take (k + 1)).filter goodB = (A.take k).filter goodB ++ (if goodB A[k] = true then [A[k]] else []) := by
  rw [List.take_succ_eq_append_getElem h, List.filter_append]
  cases e : goodB A[k] <;> simp [e]

set_option maxHeartbeats 8000000 in
set_option maxRecDepth 100000 in
theorem frameMany_any (A : List Lp) (ao : Option Addr) (co : Nat) (w : World) (hl : Lies 0 w ao A) (hm : Max w) (hn : A.length ≤ 1048576) :
    Calls Tryd.prog 7 #[.slice ao A.length co] w fun e w' => e = .returned (.bool true) ∧ Below w.heap.size w w' := by
  have HM := hide hm
  have HL := hide hl
  have P1 := hide (fun V (h : Below w.heap.size w V) => packetBegun_yes V (hm.below h))
  have P2 := hide (fun V (h : Below w.heap.size w V) => frameBegun_yes V (hm.below h))
  clear hm hl
  go_enter Tryd.func7, Tryd.ntmps7
  go_wp2_with fail
  refine (P1.out _ (Below.refl _ _)).mono ?_
  rintro e w1 ⟨rfl, hb⟩
  have HB := hide hb
  clear hb
  go_wp2_with fail
  refine (P2.out _ HB.out).mono ?_
  rintro e w2 ⟨rfl, hb⟩
  have HB := hide (below_step HB.out hb)
  clear hb P1 P2
  go_wp2
  go_loopw [3, 4, 5] (fun s v i wr => ∃ (k : Nat) (aw : Option Addr) (cw : Nat), k ≤ A.length ∧ i = .int .i64 k ∧ s = .string (catS ((A.take k).filter goodB)) ∧ v = .slice aw ((A.take k).filter goodB).length cw ∧ Hid (Fr 0 w ((A.take k).filter goodB) (.slice aw ((A.take k).filter goodB).length cw) wr)) (fun _ _ i _ => A.length - (intOf i).toNat)
  case atStart => exact ⟨0, none, 0, Nat.zero_le _, rfl, rfl, rfl, HB.out, World.ownsRow_nil _ _ _ _, fun q hq => by cases hq⟩
  case round =>
    obtain ⟨k, aw, cw, hk, rfl, rfl, rfl, HR⟩ := hrel
    have hK1 : ((A.take k).filter goodB).length ≤ 1048576 := Nat.le_trans (List.length_filter_le _ _) (by rw [List.length_take]; omega)
    have hK2 := catS_size ((A.take k).filter goodB) (fun q hq => (List.mem_filter.1 hq).2)
    clear HB
    by_cases hlt : k < A.length
    · obtain ⟨g1, o1, rfl, hg1, hc1⟩ := HL.out.at hlt
      have i1 := (HL.out.2 _ (List.getElem_mem hlt)).1
      have HSN := hide (good_snoc A k hlt)
      have hlt' : (k : Int) < A.length := by omega
      generalize A[k] = q at *
      obtain ⟨p, a1, c1, d1, e1⟩ := q
      generalize (A.take k).filter goodB = K at *
      have HG : Hid (goodB ⟨p, a1, c1, d1, e1⟩ = (decide (chkP p = 0) && decide ((encP p).size ≤ 600))) := rfl
      have HK : Hid (∀ V, Below w.heap.size w V → V.cell? ⟨g1, o1 + k * 14, none⟩ = some (.int .i64 p.kind) ∧ V.cell? ⟨g1, o1 + k * 14 + 1, none⟩ = some (.bool p.dup) ∧ V.cell? ⟨g1, o1 + k * 14 + 2, none⟩ = some (.bool p.retain) ∧ V.cell? ⟨g1, o1 + k * 14 + 3, none⟩ = some (.bool p.clean) ∧ V.cell? ⟨g1, o1 + k * 14 + 4, none⟩ = some (.bool p.session) ∧ V.cell? ⟨g1, o1 + k * 14 + 5, none⟩ = some (.int .i64 p.qos) ∧ V.cell? ⟨g1, o1 + k * 14 + 6, none⟩ = some (.int .i64 p.id) ∧ V.cell? ⟨g1, o1 + k * 14 + 7, none⟩ = some (.int .i64 p.keep) ∧ V.cell? ⟨g1, o1 + k * 14 + 8, none⟩ = some (.int .i64 p.code) ∧ V.cell? ⟨g1, o1 + k * 14 + 9, none⟩ = some (.string p.client) ∧ V.cell? ⟨g1, o1 + k * 14 + 10, none⟩ = some (.string p.topic) ∧ V.cell? ⟨g1, o1 + k * 14 + 11, none⟩ = some (.string p.payload) ∧ V.cell? ⟨g1, o1 + k * 14 + 12, none⟩ = some (.slice a1 p.asks.length c1) ∧ V.cell? ⟨g1, o1 + k * 14 + 13, none⟩ = some (.slice d1 p.codes.length e1)) := fun V hV => lp_cells (fun j u hu => (hV.cell (p := ⟨g1, _, none⟩) hg1).trans (hc1 j u hu))
      have HI : Hid (∀ V, Below w.heap.size w V → PkIn V p a1 d1) := fun V hV => i1.below hV
      have CE : Hid (∀ V, Below w.heap.size w V → Calls Tryd.prog 8 #[pkV p a1 c1 d1 e1] V fun e w' => e = .returned (.tuple #[.string (encS p), .int .i64 (chkP p)]) ∧ Below V.heap.size V w') := fun V hV => encode_any p a1 d1 c1 e1 V (HM.out.below hV) (i1.below hV)
      have HP0 := hide i1
      simp only [pkV] at CE
      clear hc1 i1
      obtain ⟨x0, x1, x2, x3, x4, x5, x6, x7, x8, x9, x10, x11, x12, x13⟩ := HK.out _ HR.out.bel
      go_wp2_with fail
      refine (CE.out _ HR.out.bel).mono ?_
      rintro e w3 ⟨rfl, hb⟩
      have HR := hide (HR.out.step hb)
      clear hb CE x0 x1 x2 x3 x4 x5 x6 x7 x8 x9 x10 x11 x12 x13
      by_cases hc : chkP p = 0
      · have hes : encS p = encP p := if_pos hc
        rw [hes, hc]
        by_cases h6 : (encP p).size ≤ 600
        · have HG1 : Hid ((A.take (k + 1)).filter goodB = K ++ [⟨p, a1, c1, d1, e1⟩]) := by
            show _ = _
            rw [HSN.out, if_pos (by rw [HG.out]; simp [hc, h6])]
          have HCS := hide (catS_snoc K ⟨p, a1, c1, d1, e1⟩)
          simp only at HCS
          have h6' : ((encP p).size : Int) ≤ 600 := by omega
          have hcat : (catS K).size + (encP p).size ≤ 900000000000 := by omega
          clear HSN HG hes
          obtain ⟨x0, x1, x2, x3, x4, x5, x6, x7, x8, x9, x10, x11, x12, x13⟩ := HK.out _ HR.out.bel
          have HR3 := hide (HR.out.alloc (.cells #[.int .i64 p.kind, .bool p.dup, .bool p.retain, .bool p.clean, .bool p.session, .int .i64 p.qos, .int .i64 p.id, .int .i64 p.keep, .int .i64 p.code, .string p.client, .string p.topic, .string p.payload, .slice a1 p.asks.length c1, .slice d1 p.codes.length e1] 25))
          have HN3 : Hid (∀ j u, (lpC ⟨p, a1, c1, d1, e1⟩)[j]? = some u → (w3.alloc (.cells #[.int .i64 p.kind, .bool p.dup, .bool p.retain, .bool p.clean, .bool p.session, .int .i64 p.qos, .int .i64 p.id, .int .i64 p.keep, .int .i64 p.code, .string p.client, .string p.topic, .string p.payload, .slice a1 p.asks.length c1, .slice d1 p.codes.length e1] 25)).cell? ⟨w3.heap.size, j, none⟩ = some u) := fun j u hu => by
            rw [Lib.cell_of_heap (Go.heap_alloc_new w3 _)]
            simpa [lpC] using hu
          have HF3 : Hid (Far 0 (w3.alloc (.cells #[.int .i64 p.kind, .bool p.dup, .bool p.retain, .bool p.clean, .bool p.session, .int .i64 p.qos, .int .i64 p.id, .int .i64 p.keep, .int .i64 p.code, .string p.client, .string p.topic, .string p.payload, .slice a1 p.asks.length c1, .slice d1 p.codes.length e1] 25)) (Value.slice aw K.length cw).ownBlock ⟨p, a1, c1, d1, e1⟩) := Far.of_old (Wb := w) HP0.out HR3.out.bel (fr_ge HR3.out)
          go_wp2_with (at_builtin; refine wpP1 rfl _ _ rfl rfl w3.heap.size 1 ⟨p, a1, c1, d1, e1⟩ rfl HR3.out HN3.out HF3.out (by omega) ?_)
          intro g cap W' hf _
          have HF4 : Hid (Fr 0 w (K ++ [⟨p, a1, c1, d1, e1⟩]) (.slice (some ⟨g, 0, none⟩) (K.length + 1) cap) W') := hf
          clear hf HR3 HN3 HF3 x0 x1 x2 x3 x4 x5 x6 x7 x8 x9 x10 x11 x12 x13
          go_wp2
          go_round
          case rel => exact ⟨k + 1, some ⟨g, 0, none⟩, cap, by omega, by go_num, by rw [HG1.out, HCS.out], by rw [HG1.out, List.length_append]; rfl, by rw [HG1.out, List.length_append]; exact HF4.out⟩
          case measure => simp [intOf]; omega
        · have HG1 : Hid ((A.take (k + 1)).filter goodB = K) := by
            show _ = _
            rw [HSN.out, if_neg (by rw [HG.out]; simp [h6]), List.append_nil]
          have h6' : ¬ ((encP p).size : Int) ≤ 600 := by omega
          clear HSN HG hes
          go_wp2
          go_round
          case rel => exact ⟨k + 1, aw, cw, by omega, by go_num, by rw [HG1.out], by rw [HG1.out], by rw [HG1.out]; exact HR.out⟩
          case measure => simp [intOf]; omega
      · have HG1 : Hid ((A.take (k + 1)).filter goodB = K) := by
          show _ = _
          rw [HSN.out, if_neg (by rw [HG.out]; simp [hc]), List.append_nil]
        have hc' : (chkP p == 0) = false := by simp [hc]
        clear HSN HG hc
        go_wp2
        go_round
        case rel => exact ⟨k + 1, aw, cw, by omega, by go_num, by rw [HG1.out], by rw [HG1.out], by rw [HG1.out]; exact HR.out⟩
        case measure => simp [intOf]; omega
    · have hge : (A.length : Int) ≤ k := by omega
      have HA : Hid ((A.take k).filter goodB = A.filter goodB) := by show _ = _; rw [List.take_of_length_le (by omega)]
      have HFD := hide (fd_cat ((A.take k).filter goodB) (fun q hq => (List.mem_filter.1 hq).2))
      have HGD : Hid (∀ q ∈ (A.take k).filter goodB, q.p.asks.length ≤ 6 ∧ q.p.codes.length ≤ 6) := fun q hq => by
        have := (List.mem_filter.1 hq).2
        simp only [goodB, Bool.and_eq_true, decide_eq_true_eq] at this
        have := chkP_ok this.1
        omega
      clear HA
      generalize (A.take k).filter goodB = K at *
      have CF := hide (feed_any ⟨#[]⟩ (catS K) wr (by show 0 + (catS K).size ≤ _; omega) (HM.out.below HR.out.bel))
      rw [str_nil, HFD.out] at CF
      clear HFD
      go_wp2_with fail
      refine CF.out.mono ?_
      rintro e w3 ⟨ag, cg, G, rfl, hQ', hL, hb⟩
      have hQ : G.map Lp.p = K.map Lp.p := hQ'
      clear hQ'
      have HR := hide (HR.out.step hb)
      have HC := hide (samePks_yes G K ag aw cg cw w3 hL HR.out.lies hQ (fun q hq => by
        have : q.p ∈ K.map Lp.p := by rw [← hQ]; exact List.mem_map_of_mem hq
        obtain ⟨q', hq', e⟩ := List.mem_map.1 this
        rw [← e]; exact HGD.out q' hq') (by
        have e := congrArg List.length hQ
        rw [List.length_map, List.length_map] at e
        omega))
      clear hQ hL hb CF HGD
      go_wp2_with fail
      refine HC.out.mono ?_
      rintro e w4 ⟨rfl, hb⟩
      have HBE := hide (below_step HR.out.bel hb)
      clear hb HC HR
      go_wp2
      go_ret
      exact ⟨rfl, HBE.out⟩
end Go.Proofs.YtgmjdelgocbcaabDoor
