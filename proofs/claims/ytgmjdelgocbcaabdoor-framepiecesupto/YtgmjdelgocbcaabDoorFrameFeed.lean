/-
  frame.Feed: what it answers.
-/
import Derived.Test.YtgmjdelgocbcaabDoorFrameBase
namespace Go.Proofs.YtgmjdelgocbcaabDoor
open Go.RowKit Go.PlainAid

set_option maxHeartbeats 2000000 in
theorem size_any (s : ByteArray) (w : World) (hs : s.size ≤ maxLen) :
    Calls Tryd.prog 67 #[.string s] w fun e w' => e = .returned (.tuple #[.int .i64 (szN s), .int .i64 (szE s)]) ∧ w' = w := by
  have HC : Hid (∀ W, Calls Tryd.prog 54 #[.string s, .int .i64 1] W fun e w' => e = .returned (.tuple #[.int .i64 (glR s 1).1, .int .i64 (glR s 1).2.1, .int .i64 (glR s 1).2.2]) ∧ w' = W) := fun W => getLong_any s 1 W hs
  have hb := glR_ok (s := s)
  have hN : szN s = if szE s = 0 then 1 + (glR s 1).2.1 + (glR s 1).1 else 0 := rfl
  have hE : szE s = if (glR s 1).2.2 ≠ 0 then (glR s 1).2.2 else if 600 < 1 + (glR s 1).2.1 + (glR s 1).1 then 2 else if (s.size : Int) < 1 + (glR s 1).2.1 + (glR s 1).1 then 8 else 0 := rfl
  rw [hN]
  generalize szE s = E at *
  clear hN
  generalize glR s 1 = g at *
  obtain ⟨m, u, x⟩ := g
  simp only at HC hb hE ⊢
  unfold maxLen at hs
  by_cases h1 : x = 0
  · obtain ⟨b1, b2, b3, b4⟩ := hb h1
    rw [if_neg (by simp [h1])] at hE
    clear hb
    by_cases h2 : 600 < 1 + u + m
    · rw [if_pos h2] at hE
      subst hE h1
      go_enter Tryd.func67, Tryd.ntmps67
      go_wp2_with fail
      refine (HC.out _).mono ?_
      rintro e w1 ⟨rfl, rfl⟩
      go_wp2
      go_ret2
      exact ⟨rfl, rfl⟩
    · rw [if_neg h2] at hE
      by_cases h3 : (s.size : Int) < 1 + u + m
      · rw [if_pos h3] at hE
        subst hE h1
        go_enter Tryd.func67, Tryd.ntmps67
        go_wp2_with fail
        refine (HC.out _).mono ?_
        rintro e w1 ⟨rfl, rfl⟩
        go_wp2
        go_ret2
        exact ⟨rfl, rfl⟩
      · rw [if_neg h3] at hE
        subst hE h1
        go_enter Tryd.func67, Tryd.ntmps67
        go_wp2_with fail
        refine (HC.out _).mono ?_
        rintro e w1 ⟨rfl, rfl⟩
        go_wp2
        go_ret2
        exact ⟨rfl, rfl⟩
  · rw [if_pos h1] at hE
    subst hE
    have h1' : (E != 0) = true := by simp [h1]
    rw [if_neg h1]
    clear hb
    go_enter Tryd.func67, Tryd.ntmps67
    go_wp2_with fail
    refine (HC.out _).mono ?_
    rintro e w1 ⟨rfl, rfl⟩
    go_wp2
    go_ret2
    exact ⟨rfl, rfl⟩

/-- while a stream is taken: the box of the row, and the row so far -/
def Fx (w : World) (L : List Lp) (W : World) : Prop := ∃ ao co, Fr (w.heap.size + 1) w L (.slice ao L.length co) W ∧ W.heap[w.heap.size]? = some (.cells #[.slice ao L.length co] 36 (0, 0))
theorem Fx.step {w W W' : World} {L : List Lp} (h : Fx w L W) (hb : Below W.heap.size W W') : Fx w L W' := by
  obtain ⟨ao, co, h1, h2⟩ := h
  exact ⟨ao, co, h1.step hb, (hb.block _ (Array.getElem?_eq_some_iff.1 h2).1).trans h2⟩
theorem Fx.bel {w W : World} {L : List Lp} (h : Fx w L W) : Below w.heap.size w W := by
  obtain ⟨ao, co, h1, _⟩ := h
  exact h1.bel
theorem Fr.set {w W : World} {L : List Lp} {v : Value} (h : Fr (w.heap.size + 1) w L v W) (hne : v.ownBlock ≠ some w.heap.size) (x : Value) : Fr (w.heap.size + 1) w L v (W.setCell ⟨w.heap.size, 0, none⟩ x) :=
  ⟨h.bel.setCell (p := ⟨w.heap.size, 0, none⟩) (Nat.le_refl _) x, pown_kept h.row (fun g hg => Below.heap_setCell _ _ _ _ (fun e => hne (by rw [hg]; exact congrArg some e))),
    fun q hq => (h.far q hq).keep (by simp) (fun k _ hN hne' => ⟨Below.heap_setCell _ _ _ _ (fun e => by have e' : k = w.heap.size := e; omega), hne'⟩)⟩
theorem box_set {W : World} {b : Nat} {y x : Value} {t : TypeId} (h : W.heap[b]? = some (.cells #[y] t (0, 0))) : (W.setCell ⟨b, 0, none⟩ x).heap[b]? = some (.cells #[x] t (0, 0)) := by
  simp [World.setCell, Array.getElem?_modify, h]

set_option maxHeartbeats 8000000 in
set_option maxRecDepth 100000 in
theorem take_any (s : ByteArray) (w W : World) (L : List Lp) (hs : s.size ≤ maxLen) (hm : Max w) (h : Fx w L W) (hL : L.length ≤ 900000000000) :
    Calls Tryd.prog 47 #[.string s, .pointer (some ⟨w.heap.size, 0, none⟩)] W fun e w' => e = .returned (.int .i64 (decE s)) ∧ (decE s = 0 → ∃ q, q.p = decP s ∧ Fx w (L ++ [q]) w') ∧ (decE s ≠ 0 → Fx w L w') := by
  have CD := hide (decode_any s W hs (hm.below h.bel))
  obtain ⟨ao, co, hfr, hbox⟩ := h
  have hW : w.heap.size < W.heap.size := (Array.getElem?_eq_some_iff.1 hbox).1
  have hown : Hid (∀ k, (Value.slice ao L.length co).ownBlock = some k → k < W.heap.size) := fun k e => pown_lt hfr.row e
  have HF := hide hfr
  have HB := hide hbox
  clear hfr hbox hm hs
  generalize decE s = E at *
  generalize decP s = P at *
  go_enter Tryd.func47, Tryd.ntmps47
  go_wp2_with fail
  refine CD.out.mono ?_
  rintro e w1 ⟨aa, ca, ac, cc, rfl, hin, hb⟩
  have hsz := hb.size
  have HF := hide (HF.out.step hb)
  have HB : Hid (w1.heap[w.heap.size]? = some (.cells #[.slice ao L.length co] 36 (0, 0))) := (hb.block _ hW).trans HB.out
  have HI := hide hin
  clear hb hin CD
  simp only [pkV]
  go_upto_if 12 with fail
  have HF2 := hide (HF.out.alloc (.cells (lpC ⟨P, aa, ca, ac, cc⟩).toArray 25))
  have HB2 : Hid ((w1.alloc (.cells (lpC ⟨P, aa, ca, ac, cc⟩).toArray 25)).heap[w.heap.size]? = some (.cells #[.slice ao L.length co] 36 (0, 0))) := by
    show _ = _
    rw [Below.heap_alloc _ _ _ (by omega)]; exact HB.out
  have HP2 : Hid ((w1.alloc (.cells (lpC ⟨P, aa, ca, ac, cc⟩).toArray 25)).heap[w1.heap.size]? = some (.cells (lpC ⟨P, aa, ca, ac, cc⟩).toArray 25 (0, 0))) := Go.heap_alloc_new w1 _
  have HI2 : Hid (PkInB W.heap.size (w1.alloc (.cells (lpC ⟨P, aa, ca, ac, cc⟩).toArray 25)) P aa ac) := ⟨HI.out.1.alloc _, HI.out.2⟩
  have hs2 : (w1.alloc (.cells (lpC ⟨P, aa, ca, ac, cc⟩).toArray 25)).heap.size = w1.heap.size + 1 := by simp
  clear HF HB HI
  simp only [lpC] at HF2 HB2 HP2 HI2 hs2
  revert HF2 HB2 HP2 HI2 hs2
  generalize w1.alloc (.cells #[.int .i64 P.kind, .bool P.dup, .bool P.retain, .bool P.clean, .bool P.session, .int .i64 P.qos, .int .i64 P.id, .int .i64 P.keep, .int .i64 P.code, .string P.client, .string P.topic, .string P.payload, .slice aa P.asks.length ca, .slice ac P.codes.length cc] 25) = W2
  intro HF2 HB2 HP2 HI2 hs2
  generalize w1.heap.size = b4 at *
  by_cases hE : E = 0
  · subst hE
    have x1 := fun o => Lib.cell_of_heap HP2.out o
    have x2 := fun o => Lib.cell_of_heap HB2.out o
    have HF3 := hide (HF2.out.alloc (.cells (lpC ⟨P, aa, ca, ac, cc⟩).toArray 25))
    have HB3 : Hid ((W2.alloc (.cells (lpC ⟨P, aa, ca, ac, cc⟩).toArray 25)).heap[w.heap.size]? = some (.cells #[.slice ao L.length co] 36 (0, 0))) := by
      show _ = _
      rw [Below.heap_alloc _ _ _ (by omega)]; exact HB2.out
    have HN3 : Hid (∀ j u, (lpC ⟨P, aa, ca, ac, cc⟩)[j]? = some u → (W2.alloc (.cells (lpC ⟨P, aa, ca, ac, cc⟩).toArray 25)).cell? ⟨b4 + 1, j, none⟩ = some u) := fun j u hu => by
      rw [← hs2, Lib.cell_of_heap (Go.heap_alloc_new W2 _)]
      simpa using hu
    have HR3 : Hid (Far (w.heap.size + 1) (W2.alloc (.cells (lpC ⟨P, aa, ca, ac, cc⟩).toArray 25)) (Value.slice ao L.length co).ownBlock ⟨P, aa, ca, ac, cc⟩) :=
      (Far.of_new (N := W.heap.size) (q := ⟨P, aa, ca, ac, cc⟩) ⟨HI2.out.1.alloc _, HI2.out.2⟩ hown.out).mono (by omega)
    simp only [lpC] at HF3 HB3 HN3 HR3
    have hz3 : w.heap.size < (W2.alloc (.cells #[.int .i64 P.kind, .bool P.dup, .bool P.retain, .bool P.clean, .bool P.session, .int .i64 P.qos, .int .i64 P.id, .int .i64 P.keep, .int .i64 P.code, .string P.client, .string P.topic, .string P.payload, .slice aa P.asks.length ca, .slice ac P.codes.length cc] 25)).heap.size := by simp; omega
    clear HF2 HB2 HP2 HI2 hown
    go_wp2_with (at_builtin; refine wpP1 rfl _ _ rfl rfl (b4 + 1) 1 ⟨P, aa, ca, ac, cc⟩ rfl HF3.out HN3.out HR3.out hL ?_)
    intro g cap W' hf hg
    have hne := pown_ne HF3.out.row HB3.out (by decide)
    have HB4 : Hid (W'.heap[w.heap.size]? = some (.cells #[.slice ao L.length co] 36 (0, 0))) := (hg.block _ hz3 (fun e => hne e.symm)).trans HB3.out
    have HF4 : Hid (Fr (w.heap.size + 1) w (L ++ [⟨P, aa, ca, ac, cc⟩]) (.slice (some ⟨g, 0, none⟩) (L.length + 1) cap) W') := hf
    clear hf hg hne HF3 HB3 HN3 HR3 x1 x2 hz3
    have x4 := fun o => Lib.cell_of_heap HB4.out o
    have f4 := fun o => Lib.frozen_of_heap HB4.out o
    have HXX : Hid (Fx w (L ++ [⟨P, aa, ca, ac, cc⟩]) (W'.setCell ⟨w.heap.size, 0, none⟩ (.slice (some ⟨g, 0, none⟩) (L.length + 1) cap))) := by
      refine ⟨some ⟨g, 0, none⟩, cap, ?_, ?_⟩
      · rw [List.length_append]; exact HF4.out.set (pown_ne HF4.out.row HB4.out (by decide)) _
      · rw [List.length_append]; exact box_set HB4.out
    clear HF4 HB4
    go_wp2
    go_ret
    exact ⟨rfl, ⟨P, aa, ca, ac, cc⟩, rfl, HXX.out⟩
  · have hE' : (E == 0) = false := by simp [hE]
    have HXX : Hid (Fx w L W2) := ⟨ao, co, HF2.out, HB2.out⟩
    clear HF2 HB2 HI2 HP2
    go_wp2
    go_ret
    exact ⟨rfl, fun e => absurd e hE, fun _ => HXX.out⟩

theorem cutL (s : ByteArray) : s.extract 0 s.size = s := by
  apply ByteArray.ext; apply Array.toList_inj.1
  have e : s.data.toList.length = s.size := by simp
  simp only [ByteArray.data_extract, Array.toList_extract, List.extract_eq_take_drop, List.drop_zero, Nat.sub_zero]
  exact List.take_of_length_le (by omega)
theorem cut_hd (s : ByteArray) (k n : Nat) (h : k + n ≤ s.size) : (s.extract k s.size).extract 0 n = s.extract k (k + n) := by
  apply ByteArray.ext; apply Array.toList_inj.1
  simp only [ByteArray.data_extract, Array.toList_extract, List.extract_eq_take_drop, List.drop_zero, Nat.sub_zero, List.take_take]
  congr 1
  omega
theorem cut_tl (s : ByteArray) (k n : Nat) (h : k + n ≤ s.size) : (s.extract k s.size).extract n (s.extract k s.size).size = s.extract (k + n) s.size := by
  apply ByteArray.ext; apply Array.toList_inj.1
  rw [ByteArray.size_extract]
  simp only [ByteArray.data_extract, Array.toList_extract, List.extract_eq_take_drop, List.drop_take, List.drop_drop, List.take_take]
  congr 1
  omega

/-- so far, of a stream, up to k -/
def Sofar (s : ByteArray) (w : World) (k : Nat) (L : List Lp) (W : World) : Prop := Fx w L W ∧ fd s = (L.map Lp.p ++ (fd (s.extract k s.size)).1, (fd (s.extract k s.size)).2) ∧ L.length ≤ k

set_option maxHeartbeats 8000000 in
set_option maxRecDepth 100000 in
theorem whole_any (s : ByteArray) (w W : World) (hs : s.size ≤ 900000000000) (hm : Max w) (h : Fx w [] W) :
    Calls Tryd.prog 46 #[.string s, .func (.func 47) #[] #[.pointer (some ⟨w.heap.size, 0, none⟩)]] W fun e w' => e = .returned (.tuple #[.string (fd s).2.1, .int .i64 (fd s).2.2]) ∧ ∃ Q, Q.map Lp.p = (fd s).1 ∧ Fx w Q w' := by
  have HM := hide hm
  have H0 : Hid (Sofar s w 0 [] W) := ⟨h, by rw [cutL]; rfl, Nat.le_refl _⟩
  have HE : Hid (∀ k L V, Sofar s w k L V → (fd (s.extract k s.size) = ([], s.extract k s.size, 0)) → .returned (.tuple #[.string (s.extract k s.size), .int .i64 0]) = Ending.returned (.tuple #[.string (fd s).2.1, .int .i64 (fd s).2.2]) ∧ ∃ Q, Q.map Lp.p = (fd s).1 ∧ Fx w Q V) := fun k L V hk e => by
    obtain ⟨h1, h2, _⟩ := hk
    rw [e] at h2
    rw [h2]
    exact ⟨rfl, L, by simp, h1⟩
  have HW : Hid (∀ k L V x, Sofar s w k L V → (fd (s.extract k s.size) = ([], ⟨#[]⟩, x)) → .returned (.tuple #[.string ⟨#[]⟩, .int .i64 x]) = Ending.returned (.tuple #[.string (fd s).2.1, .int .i64 (fd s).2.2]) ∧ ∃ Q, Q.map Lp.p = (fd s).1 ∧ Fx w Q V) := fun k L V x hk e => by
    obtain ⟨h1, h2, _⟩ := hk
    rw [e] at h2
    rw [h2]
    exact ⟨rfl, L, by simp, h1⟩
  clear hm h
  generalize (fd s).2.1 = A1 at *
  generalize (fd s).2.2 = A2 at *
  generalize (fd s).1 = A3 at *
  go_enter Tryd.func46, Tryd.ntmps46
  go_wp2
  go_loopw [6] (fun x wr => ∃ (k : Nat) (L : List Lp), k ≤ s.size ∧ x = .int .i64 k ∧ Hid (Sofar s w k L wr)) (fun x _ => s.size - (intOf x).toNat)
  case atStart => exact ⟨0, [], Nat.zero_le _, rfl, H0⟩
  case round =>
    obtain ⟨k, L, hk, rfl, HS⟩ := hrel
    have hsz : (s.extract k s.size).size = s.size - k := by rw [ByteArray.size_extract]; omega
    have CC := hide (fun V => clone_any (s.extract k s.size) V (by omega))
    clear H0
    by_cases hlt : k < s.size
    · have CS : Hid (∀ V, Calls Tryd.prog 67 #[.string (s.extract k s.size)] V fun e w' => e = .returned (.tuple #[.int .i64 (szN (s.extract k s.size)), .int .i64 (szE (s.extract k s.size))]) ∧ w' = V) := fun V => size_any _ V (by unfold maxLen; omega)
      have h0 : (s.extract k s.size).size ≠ 0 := by omega
      by_cases e8 : szE (s.extract k s.size) = 8
      · have HQ := hide (fd_short h0 e8)
        rw [e8] at CS
        generalize szN (s.extract k s.size) = NN at *
        clear e8 h0
        go_wp2_with fail
        refine (CS.out _).mono ?_
        rintro e w1 ⟨rfl, hw⟩
        subst hw
        go_wp2_with fail
        refine (CC.out _).mono ?_
        rintro e w2 ⟨rfl, hb⟩
        have HS2 : Hid (Sofar s w k L w2) := ⟨HS.out.1.step hb, HS.out.2⟩
        clear hb HS CS CC
        go_wp2
        go_ret2
        exact HE.out k L _ HS2.out HQ.out
      · by_cases e0 : szE (s.extract k s.size) = 0
        · have hN := sz_ok e0
          obtain ⟨n, hn⟩ : ∃ n : Nat, szN (s.extract k s.size) = n := ⟨(szN (s.extract k s.size)).toNat, by omega⟩
          have hn2 : 2 ≤ n ∧ k + n ≤ s.size := by omega
          have hhd : hd (s.extract k s.size) = s.extract k (k + n) := by unfold hd; rw [hn]; exact cut_hd s k n hn2.2
          have htl : tl (s.extract k s.size) = s.extract (k + n) s.size := by unfold tl; rw [hn]; exact cut_tl s k n hn2.2
          have CT := hide (take_any (s.extract k (k + n)) w wr L (by rw [ByteArray.size_extract]; unfold maxLen; omega) HM.out HS.out.1 (by have := HS.out.2.2; omega))
          have HQ1 : Hid (decE (s.extract k (k + n)) = 0 → ∀ q V, q.p = decP (s.extract k (k + n)) → Fx w (L ++ [q]) V → Sofar s w (k + n) (L ++ [q]) V) := fun hd0 q V hq hx => by
            have := fd_step h0 e0 (by rw [hhd]; exact hd0)
            rw [hhd, htl] at this
            refine ⟨hx, ?_, by rw [List.length_append, List.length_singleton]; have := HS.out.2.2; omega⟩
            rw [HS.out.2.1, this]
            simp [hq]
          have HQ2 : Hid (decE (s.extract k (k + n)) ≠ 0 → fd (s.extract k s.size) = ([], ⟨#[]⟩, decE (s.extract k (k + n)))) := fun hd0 => by
            have := fd_wrong h0 e0 (by rw [hhd]; exact hd0)
            rwa [hhd] at this
          have HL2 := hide HS.out.2
          rw [e0, hn] at CS
          obtain ⟨hn3, hn4⟩ := hn2
          have hk64 : (k : Int) + n ≤ s.size := by omega
          clear e8 e0 h0 hN hn hhd htl HS HM CC
          generalize decE (s.extract k (k + n)) = DE at *
          generalize decP (s.extract k (k + n)) = DP at *
          go_wp2_with fail
          refine (CS.out _).mono ?_
          rintro e w1 ⟨rfl, hw⟩
          subst hw
          go_wp2_with fail
          refine CT.out.mono ?_
          rintro e w2 ⟨rfl, h1, h2⟩
          have H1 := hide h1
          have H2 := hide h2
          clear h1 h2 CT CS
          by_cases hd0 : DE = 0
          · obtain ⟨q, hq, hx⟩ := H1.out hd0
            have HS3 := hide (HQ1.out hd0 q _ hq hx)
            subst hd0
            clear hq hx H1 H2 HQ1 HQ2
            go_wp2
            go_round
            case rel => exact ⟨k + n, L ++ [q], hn4, by go_num, HS3⟩
            case measure => simp [intOf]; omega
          · have HS3 : Hid (Sofar s w k L w2) := ⟨H2.out hd0, HL2.out⟩
            have HQ3 := hide (HQ2.out hd0)
            have hd1 : (DE != 0) = true := by simp [hd0]
            clear H1 H2 HQ1 HQ2 hd0
            go_wp2
            go_ret2
            exact HW.out k L _ _ HS3.out HQ3.out
        · have HQ := hide (fd_bad h0 e8 e0)
          generalize szE (s.extract k s.size) = EE at *
          generalize szN (s.extract k s.size) = NN at *
          have e1 : (EE == 8) = false := by simp [e8]
          have e2 : (EE != 0) = true := by simp [e0]
          clear e8 e0 h0
          go_wp2_with fail
          refine (CS.out _).mono ?_
          rintro e w1 ⟨rfl, hw⟩
          subst hw
          go_wp2
          go_ret2
          exact HW.out k L _ _ HS.out HQ.out
    · have hk' : k = s.size := by omega
      have HQ := hide (fd_nil (s := s.extract k s.size) (by omega))
      have hge : (s.size : Int) ≤ k := by omega
      have hem : s.extract k s.size = ByteArray.empty := ByteArray.ext (by rw [hk']; simp)
      rw [hem] at CC
      have HE1 := hide (HE.out k L)
      rw [hem] at HE1 HQ
      clear hem HE
      go_wp2_with fail
      refine (CC.out _).mono ?_
      rintro e w2 ⟨rfl, hb⟩
      have HS2 : Hid (Sofar s w k L w2) := ⟨HS.out.1.step hb, HS.out.2⟩
      clear hb HS CC
      go_wp2
      go_ret2
      exact HE1.out _ HS2.out HQ.out

/-- what Feed answers -/
def FeedPost (w : World) (r : List Pk × ByteArray × Int) (e : Ending) (w' : World) : Prop := ∃ ao co Q, e = .returned (.tuple #[.slice ao Q.length co, .string r.2.1, .int .i64 r.2.2]) ∧ Q.map Lp.p = r.1 ∧ Lies w.heap.size w' ao Q ∧ Below w.heap.size w w'
set_option maxHeartbeats 8000000 in
set_option maxRecDepth 100000 in
theorem feed_any (a b : ByteArray) (w : World) (hs : a.size + b.size ≤ 900000000000) (hm : Max w) : Calls Tryd.prog 16 #[.string a, .string b] w (FeedPost w (fd (a ++ b))) := by
  have H0 : Hid (Fx w [] (w.alloc (.cells #[.slice none 0 0] 36))) :=
    ⟨none, 0, ⟨(Below.refl _ _).alloc (Nat.le_refl _) _, World.ownsRow_nil _ _ _ _, fun q hq => by cases hq⟩, Go.heap_alloc_new w _⟩
  have CW := hide (fun W hW => whole_any (a ++ b) w W (by rw [ByteArray.size_append]; omega) hm hW)
  clear hm
  generalize hR : fd (a ++ b) = R at *
  clear hR
  go_enter Tryd.func16, Tryd.ntmps16
  go_wp2_with fail
  refine (CW.out _ H0.out).mono ?_
  rintro e w1 ⟨rfl, Q, hQ, ao, co, hf, hb⟩
  have HR := hide (And.intro hQ (And.intro hf.lies hf.bel))
  have x1 := fun o => Lib.cell_of_heap hb o
  clear hQ hf hb CW H0
  go_wp2
  refine bodyPost_ret (v := .tuple #[.slice ao Q.length co, .string R.2.1, .int .i64 R.2.2]) (by simp [results, Tryd.results16, go_sem]) rfl ⟨ao, co, Q, rfl, HR.out.1, HR.out.2.1.mono (by omega), HR.out.2.2⟩
end Go.Proofs.YtgmjdelgocbcaabDoor
