/-
  message.reader's options: what they read.
-/
import Derived.Test.YtedlebkpdejhiacMsgRead
import Derived.Deep.LoopGhost
import Derived.Deep.AppendLies
namespace Go.Proofs.Ytedlebkpdejhiac
open Go.RowKit Go.PlainAid

/-- options in a row of memory -/
def optCells (l : List (Int × ByteArray)) : List Value := l.flatMap fun o => [.int .i64 o.1, .string o.2]
theorem optCells_append (a b : List (Int × ByteArray)) : optCells (a ++ b) = optCells a ++ optCells b := by simp [optCells]
theorem optCells_get (l : List (Int × ByteArray)) (i : Nat) (h : i < l.length) : (optCells l)[i * 2]? = some (.int .i64 l[i].1) ∧ (optCells l)[i * 2 + 1]? = some (.string l[i].2) := by
  induction l generalizing i with
  | nil => simp at h
  | cons a l ih =>
    cases i with
    | zero => simp [optCells]
    | succ i =>
      have e : optCells (a :: l) = .int .i64 a.1 :: .string a.2 :: optCells l := rfl
      have := ih i (by simpa using h)
      rw [e, show (i + 1) * 2 = i * 2 + 1 + 1 by omega]
      simpa using this
theorem add13_le {l : List (Int × ByteArray)} {x : Int × ByteArray} (h : l.length ≤ 13) : (add13 l x).length ≤ 13 := by
  unfold add13; split
  · simp; omega
  · exact h
theorem tkL_cut {l : ByteArray} {k : Nat} (h : k ≤ l.size) : (tkL l k).size + k = l.size := by
  rw [tkL, if_pos h, ByteArray.size_extract]; omega
theorem am_range (l : ByteArray) (t : Int) (h0 : 0 ≤ t) (h1 : t ≤ 15) : 0 ≤ am l t ∧ am l t ≤ 65804 ∧ (amL l t).size ≤ l.size ∧ am l t + 21935 * (amL l t).size ≤ 21935 * (l.size + 1) := by
  have n1 := nu_range l 1
  have n2 := nu_range l 2
  simp only [Int.reducePow] at n1 n2
  by_cases h13 : t = 13
  · subst h13
    have e1 : am l 13 = 13 + nu l 1 := rfl
    have e2 : amL l 13 = tkL l 1 := rfl
    have := tkL_size l 1
    rw [e1, e2]; omega
  · by_cases h14 : t = 14
    · subst h14
      have e1 : am l 14 = 269 + nu l 2 := rfl
      have e2 : amL l 14 = tkL l 2 := rfl
      have := tkL_size l 2
      rw [e1, e2]
      by_cases hk : 2 ≤ l.size
      · have := tkL_cut hk; omega
      · have : nu l 2 = 0 := if_neg hk
        omega
    · have e1 : am l t = t := by rw [am, if_neg h13, if_neg h14]
      have e2 : amL l t = l := by rw [amL, if_neg h13, if_neg h14]
      rw [e1, e2]; omega
theorem o_range (l : ByteArray) (h : 0 < l.size) : (0 ≤ oMore l ∧ oMore l ≤ 65804) ∧ (0 ≤ oMany l ∧ oMany l ≤ 65804) ∧ (oLeft l).size < l.size ∧ oMore l + 21935 * (oLeft l).size ≤ 21935 * l.size ∧ (oL1 l).size ≤ l.size ∧ (oL2 l).size ≤ l.size ∧ (oL3 l).size ≤ l.size := by
  have n1 := nu_range l 1
  simp only [Int.reducePow] at n1
  have c1 : (oL1 l).size + 1 = l.size := tkL_cut h
  obtain ⟨a1, a2, a3, a4⟩ := am_range (oL1 l) (nu l 1 / 16) (by omega) (by omega)
  obtain ⟨b1, b2, b3, b4⟩ := am_range (oL2 l) (nu l 1 % 16) (by omega) (by omega)
  have c4 := tkL_size (oL3 l) (oMany l).toNat
  have d1 : (oL2 l).size ≤ (oL1 l).size := a3
  have d2 : (oL3 l).size ≤ (oL2 l).size := b3
  have d3 : (oLeft l).size ≤ (oL3 l).size := c4
  have d4 : oMore l + 21935 * (oL2 l).size ≤ 21935 * ((oL1 l).size + 1) := a4
  refine ⟨⟨a1, a2⟩, ⟨b1, b2⟩, by omega, by omega, by omega, by omega, by omega⟩

theorem mown_kept {w w' : World} {N : Nat} {e : TypeId} {k : Nat} {v : Value} {n : Nat} {xs : List Value} (h : w.ownsRow N e k v n xs) (hk : ∀ g, v.ownBlock = some g → w'.heap[g]? = w.heap[g]?) : w'.ownsRow N e k v n xs := by
  refine ⟨h.1, ?_⟩
  rcases h.2 with hn | ⟨g, cap, cur, rfl, hb, hg, rest⟩
  · exact .inl hn
  · exact .inr ⟨g, cap, cur, rfl, hb, by rw [hk g rfl]; exact hg, rest⟩
theorem mown_ne {w : World} {N : Nat} {e : TypeId} {k : Nat} {v : Value} {n : Nat} {xs : List Value} (h : w.ownsRow N e k v n xs) {b : Nat} {c : Array Value} {t : TypeId} {fz : Nat × Nat} (hb : w.heap[b]? = some (.cells c t fz)) (ht : t ≠ e) : v.ownBlock ≠ some b := by
  rcases h.2 with ⟨rfl, _⟩ | ⟨g, cap, cur, rfl, _, hg, _⟩
  · simp [Value.ownBlock]
  · intro he
    simp only [Value.ownBlock, Option.some.injEq] at he
    subst he
    rw [hb] at hg
    simp only [Option.some.injEq, Obj.cells.injEq] at hg
    exact ht hg.2.1
theorem mown_lt {w : World} {B : Nat} {e : TypeId} {size : Nat} {v : Value} {n : Nat} {xs : List Value} (h : w.ownsRow B e size v n xs) : ∀ k, v.ownBlock = some k → B ≤ k ∧ k < w.heap.size := by
  intro k hk
  rcases h.2 with ⟨rfl, _⟩ | ⟨g, cap, cur, rfl, hb, hg, _⟩
  · simp [Value.ownBlock] at hk
  · simp [Value.ownBlock] at hk
    subst hk
    exact ⟨hb, (Array.getElem?_eq_some_iff.1 hg).1⟩
theorem own_opts {w : World} {B : Nat} {ao : Option Addr} {co : Nat} {l : List (Int × ByteArray)} (h : w.ownsRow B 26 2 (.slice ao l.length co) l.length (optCells l)) : OptsIn w ao l ∧ (l = [] ∨ ∃ g o, ao = some ⟨g, o, none⟩ ∧ B ≤ g) := by
  rcases h.2 with ⟨_, h0⟩ | ⟨g, cap, cur, hv, hb, hg, _, _, _, htake⟩
  · exact ⟨.inl (List.length_eq_zero_iff.1 h0), .inl (List.length_eq_zero_iff.1 h0)⟩
  · injection hv with ha _ _
    subst ha
    refine ⟨.inr ⟨g, 0, rfl, (Array.getElem?_eq_some_iff.1 hg).1, fun i hi => ?_⟩, .inr ⟨g, 0, rfl, hb⟩⟩
    have hh := optCells_get l i hi
    rw [← htake, List.getElem?_take, List.getElem?_take, if_pos (by omega), if_pos (by omega)] at hh
    rw [Nat.zero_add, Lib.cell_of_heap hg, Lib.cell_of_heap hg]
    simpa using hh
theorem own_form {w : World} {B : Nat} {e : TypeId} {size : Nat} {v : Value} {n : Nat} {xs : List Value} (h : w.ownsRow B e size v n xs) : ∃ ao co, v = .slice ao n co := by
  rcases h.2 with ⟨rfl, rfl⟩ | ⟨g, cap, cur, rfl, _⟩
  · exact ⟨none, 0, rfl⟩
  · exact ⟨_, _, rfl⟩

/-- what options answers, and what it leaves -/
def OptsPost (b : Nat) (w : World) (R : List (Int × ByteArray) × ByteArray × Bool) (e : Ending) (w' : World) : Prop :=
  ∃ ao co, e = .returned (.slice ao R.1.length co) ∧ OptsIn w' ao R.1 ∧ (R.1 = [] ∨ ∃ g o, ao = some ⟨g, o, none⟩ ∧ w.heap.size ≤ g) ∧ Rm b R.2.1 R.2.2 w' ∧ Km b w w'
theorem OptsPost.mk {b : Nat} {w w' : World} {R : List (Int × ByteArray) × ByteArray × Bool} {e : Ending} {acc : List (Int × ByteArray)} {m : ByteArray} {bd : Bool} {ao : Option Addr} {co : Nat} (hR : R = (acc, m, bd)) (he : e = .returned (.slice ao acc.length co)) (h1 : OptsIn w' ao acc ∧ (acc = [] ∨ ∃ g o, ao = some ⟨g, o, none⟩ ∧ w.heap.size ≤ g)) (h2 : Rm b m bd w') (h3 : Km b w w') : OptsPost b w R e w' := by
  subst hR
  exact ⟨ao, co, he, h1.1, h1.2, h2, h3⟩

set_option maxHeartbeats 8000000 in
set_option maxRecDepth 100000 in
theorem options_any (b : Nat) (l : ByteArray) (bad : Bool) (w : World) (hs : l.size ≤ 140737488355328) (h : Rm b l bad w) :
    Calls Try.prog 35 #[.pointer (some ⟨b, 0, none⟩)] w (OptsPost b w (rOpts (l.size + 1) l bad 0 [])) := by
  generalize hRR : rOpts (l.size + 1) l bad 0 [] = R
  have HRR := hide hRR
  have HR := hide h
  have hbw := h.lt
  clear hRR h
  obtain ⟨i0, hi, hz0, hz1, hz2⟩ := info_parts (show (Try.prog.info? 26).map (fun i => (i.zero, i.size, i.bytes)) = some (some (.agg #[.int .i64 0, .string ⟨#[]⟩]), 2, 24) by kernel_rfl)
  go_enter Try.func35, Try.ntmps35
  go_wp2
  go_loopg [3, 4] (l.size + 1) (fun f v a wr => ∃ (m : ByteArray) (bd : Bool) (n : Int) (acc : List (Int × ByteArray)), a = .int .i64 n ∧ 0 ≤ n ∧ n + 21935 * m.size ≤ 21935 * l.size ∧ acc.length ≤ 13 ∧ Hid (Rm b m bd wr ∧ wr.ownsRow w.heap.size 26 2 v acc.length (optCells acc) ∧ Km b w wr ∧ rOpts f m bd n acc = R ∧ (bd = true ∨ m.size < f)))
  case atStart => exact ⟨l, bad, 0, [], rfl, by omega, by omega, by simp, HR.out, World.ownsRow_nil _ _ _ _, Km.refl _ _, HRR.out, .inr (by omega)⟩
  case round =>
    obtain ⟨m, bd, n, acc, rfl, hn0, hn1, hacc, HI⟩ := hrel
    obtain ⟨ao, co, rfl⟩ := own_form HI.out.2.1
    obtain ⟨h0, h1, f0, f1⟩ := HI.out.1.cells
    have hsr := HI.out.2.2.1.size
    have hms : m.size ≤ 140737488355328 := by omega
    by_cases hgo : bd = false ∧ 0 < m.size ∧ bt m 0 ≠ 255
    · obtain ⟨hbd, hpos, h255⟩ := hgo
      subst hbd
      have hk : 0 < gk := by have := HI.out.2.2.2.2; simp at this; omega
      obtain ⟨f, hf⟩ : ∃ f, gk = f + 1 := ⟨gk - 1, by omega⟩
      have HF := hide hf
      have HM : Hid (m.size < gk) := by have := HI.out.2.2.2.2; simp at this; exact this
      have HRF : Hid (rOpts f (oLeft m) (oBad m false) (n + oMore m) (add13 acc (n + oMore m, oVal m)) = R) := by
        have := HI.out.2.2.2.1
        rw [hf, rOpts, if_pos ⟨rfl, hpos, h255⟩] at this
        exact this
      obtain ⟨⟨q1, q2⟩, ⟨r1, r2⟩, hlt, hup, l1, l2, l3⟩ := o_range m hpos
      obtain ⟨p1, p2⟩ := nu_range m 1
      simp only [Int.reducePow] at p2
      have C1 : Hid (∀ W, Rm b m false W → Calls Try.prog 33 #[.pointer (some ⟨b, 0, none⟩), .int .i64 1] W fun e w' => e = .returned (.int .i64 (nu m 1)) ∧ Rm b (oL1 m) (tkB m 1 false) w' ∧ Km b W w') := fun W x => mrnumber_any b m false 1 W hms (by decide) (by decide) x
      have C2 : Hid (∀ W, Rm b (oL1 m) (tkB m 1 false) W → Calls Try.prog 41 #[.pointer (some ⟨b, 0, none⟩), .int .i64 (nu m 1 / 16)] W fun e w' => e = .returned (.int .i64 (oMore m)) ∧ Rm b (oL2 m) (amB (oL1 m) (nu m 1 / 16) (tkB m 1 false)) w' ∧ Km b W w') := fun W x => ramount_any b (oL1 m) _ _ W (by omega) x
      have C3 : Hid (∀ W, Rm b (oL2 m) (amB (oL1 m) (nu m 1 / 16) (tkB m 1 false)) W → Calls Try.prog 41 #[.pointer (some ⟨b, 0, none⟩), .int .i64 (nu m 1 % 16)] W fun e w' => e = .returned (.int .i64 (oMany m)) ∧ Rm b (oL3 m) (amB (oL2 m) (nu m 1 % 16) (amB (oL1 m) (nu m 1 / 16) (tkB m 1 false))) w' ∧ Km b W w') := fun W x => ramount_any b (oL2 m) _ _ W (by omega) x
      have C4 : Hid (∀ W, Rm b (oL3 m) (amB (oL2 m) (nu m 1 % 16) (amB (oL1 m) (nu m 1 / 16) (tkB m 1 false))) W → Calls Try.prog 34 #[.pointer (some ⟨b, 0, none⟩), .int .i64 (oMany m)] W fun e w' => e = .returned (.string (oVal m)) ∧ Rm b (oLeft m) (oBad m false) w' ∧ Km b W w') := fun W x => by
        have := mtext_any b (oL3 m) _ (oMany m).toNat W (by omega) x
        rw [Int.toNat_of_nonneg r1] at this
        exact this
      have hne : (m.toList == []) = false := txt_no (l := []) (fun e => by rw [e] at hpos; exact absurd hpos (by decide))
      have hix := get_bt m 0 hpos
      have h255' : (bt m 0 != 255) = true := by simp [h255]
      have hlp : (0 : Int) < m.size := by omega
      clear hk hf h255
      generalize oL1 m = L1 at *
      generalize oL2 m = L2 at *
      generalize oL3 m = L3 at *
      generalize hG1 : tkB m 1 false = G1 at *
      generalize hG2 : amB L1 (nu m 1 / 16) G1 = G2 at *
      generalize hG3 : amB L2 (nu m 1 % 16) G2 = G3 at *
      clear hG1 hG2 hG3
      generalize oMore m = MO at *
      generalize oMany m = MA at *
      generalize oVal m = V at *
      generalize oLeft m = LE at *
      generalize oBad m false = BA at *
      go_wp2_with fail
      refine (C1.out _ HI.out.1).mono ?_
      rintro e w1 ⟨rfl, hr1, hk1⟩
      have HR1 := hide hr1
      have HK1 := hide hk1
      clear hr1 hk1
      go_wp2_with fail
      refine (C2.out _ HR1.out).mono ?_
      rintro e w2 ⟨rfl, hr2, hk2⟩
      have HR2 := hide hr2
      have HK2 := hide (HK1.out.trans hk2)
      clear hr2 hk2 HR1 HK1
      go_wp2_with fail
      refine (C3.out _ HR2.out).mono ?_
      rintro e w3 ⟨rfl, hr3, hk3⟩
      have HR3 := hide hr3
      have HK3 := hide (HK2.out.trans hk3)
      clear hr3 hk3 HR2 HK2
      go_wp2_with fail
      refine (C4.out _ HR3.out).mono ?_
      rintro e w4 ⟨rfl, hr4, hk4⟩
      have HR4 := hide hr4
      have HK4 := hide (HK3.out.trans hk4)
      clear hr4 hk4 HR3 HK3
      have HO4 : Hid (w4.ownsRow w.heap.size 26 2 (.slice ao acc.length co) acc.length (optCells acc)) := mown_kept HI.out.2.1 fun g hg => HK4.out.block g (mown_lt HI.out.2.1 g hg).2 (fun e => mown_ne HI.out.2.1 HI.out.1 (by decide) (by rw [hg, e]))
      have HW4 := hide (HI.out.2.2.1.trans HK4.out)
      have hs4 := HK4.out.size
      have hb4 := HR4.out.lt
      have HNB : Hid ((Value.slice ao acc.length co).ownBlock ≠ some b) := mown_ne HO4.out HR4.out (by decide)
      clear h0 h1 f0 f1 C1 C2 C3 C4 HK4 hne hix h255' hlp
      by_cases h12 : acc.length ≤ 12
      · have h12' : (acc.length : Int) ≤ 12 := by omega
        have HAD : Hid (add13 acc (n + MO, V) = acc ++ [(n + MO, V)]) := if_pos h12
        go_wp2_with (at_builtin; refine wpList_append_own _ rfl _ _ 22 rfl w.heap.size 26 i0 (.agg #[.int .i64 0, .string ⟨#[]⟩]) 2 24 Try.underlying22 hi hz0 hz1 hz2 rfl (by decide) _ _ _ rfl (HO4.out.alloc _) ⟨w4.heap.size, 0, none⟩ 1 1 [.int .i64 (n + MO), .string V] rfl rfl ?c1 ?c2 ?c3 ?c4 ?c5 ?_)
        case c1 => exact World.news_of_block (Go.heap_alloc_new w4 _)
        case c2 => intro u hu; simp at hu; rcases hu with rfl | rfl <;> rfl
        case c3 => unfold maxLen; omega
        case c4 => omega
        case c5 => simp; omega
        intro v' w5 hown' hgrow _
        have HN : Hid (Rm b LE BA w5 ∧ w5.ownsRow w.heap.size 26 2 v' (acc ++ [(n + MO, V)]).length (optCells (acc ++ [(n + MO, V)])) ∧ Km b w w5 ∧ rOpts f LE BA (n + MO) (acc ++ [(n + MO, V)]) = R ∧ (BA = true ∨ LE.size < f)) := by
          refine ⟨?_, ?_, ?_, by rw [← HAD.out]; exact HRF.out, .inr (by have := HF.out; have := HM.out; omega)⟩
          · show _ = _
            rw [hgrow.block b (by simp; omega) (fun e => HNB.out e.symm), Below.heap_alloc _ _ _ hb4]
            exact HR4.out
          · rw [optCells_append, List.length_append]; exact hown'
          · refine ⟨hgrow.os.trans HW4.out.os, hgrow.tape.trans HW4.out.tape, hgrow.output.trans HW4.out.output, Nat.le_trans HW4.out.size (Nat.le_trans (by simp) hgrow.size), fun k hk hkb => ?_⟩
            rw [hgrow.block k (by simp; omega) (fun e => by have := (mown_lt HO4.out k e.symm).1; omega), Below.heap_alloc _ _ _ (by omega)]
            exact HW4.out.block k hk hkb
        clear hown' hgrow
        go_wp2
        go_roundg f
        case measure => have := HF.out; omega
        case rel => exact ⟨LE, BA, n + MO, _, rfl, by omega, by omega, by simp; omega, HN⟩
      · have h12' : decide ((acc.length : Int) ≤ 12) = false := by simp; omega
        have HAD : Hid (add13 acc (n + MO, V) = acc) := if_neg h12
        have HN : Hid (Rm b LE BA w4 ∧ w4.ownsRow w.heap.size 26 2 (.slice ao acc.length co) acc.length (optCells acc) ∧ Km b w w4 ∧ rOpts f LE BA (n + MO) acc = R ∧ (BA = true ∨ LE.size < f)) := by
          refine ⟨HR4.out, HO4.out, HW4.out, ?_, .inr (by have := HF.out; have := HM.out; omega)⟩
          have := HRF.out
          rw [HAD.out] at this
          exact this
        go_wp2
        go_roundg f
        case measure => have := HF.out; omega
        case rel => exact ⟨LE, BA, n + MO, acc, rfl, by omega, by omega, hacc, HN⟩
    · have HRE : Hid (R = (acc, m, bd)) := by
        have := HI.out.2.2.2.1
        cases gk with
        | zero => exact this.symm
        | succ f => rw [rOpts, if_neg hgo] at this; exact this.symm
      have HX : Hid (OptsIn wr ao acc ∧ (acc = [] ∨ ∃ g o, ao = some ⟨g, o, none⟩ ∧ w.heap.size ≤ g)) := own_opts HI.out.2.1
      cases bd with
      | true =>
        clear hgo
        go_wp2
        go_ret
        exact OptsPost.mk HRE.out rfl HX.out HI.out.1 HI.out.2.2.1
      | false =>
        by_cases hpos : 0 < m.size
        · have h255 : bt m 0 = 255 := Decidable.not_not.1 fun x => hgo ⟨rfl, hpos, x⟩
          have hne : (m.toList == []) = false := txt_no (l := []) (fun e => by rw [e] at hpos; exact absurd hpos (by decide))
          have hix := get_bt m 0 hpos
          have h255' : (bt m 0 != 255) = false := by simp [h255]
          have hlp : (0 : Int) < m.size := by omega
          clear hgo h255
          go_wp2
          go_ret
          exact OptsPost.mk HRE.out rfl HX.out HI.out.1 HI.out.2.2.1
        · have hm0 := nil_of_size (p := m) (by omega)
          have hne : (m.toList == []) = true := txt_yes (l := []) hm0
          clear hgo hpos hm0
          go_wp2
          go_ret
          exact OptsPost.mk HRE.out rfl HX.out HI.out.1 HI.out.2.2.1
end Go.Proofs.Ytedlebkpdejhiac
