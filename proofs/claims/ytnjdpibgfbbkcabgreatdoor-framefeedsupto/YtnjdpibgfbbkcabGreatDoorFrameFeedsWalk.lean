/-
  The reference's FeedOf: what it answers (bytes of no great size).
-/
import Derived.Test.YtnjdpibgfbbkcabGreatDoorFrameFeed
import Derived.Test.YtnjdpibgfbbkcabGreatDoorRefPkOf
namespace Go.Proofs.YtnjdpibgfbbkcabGreatDoor
open Go.RowKit Go.PlainAid

/-- so far, of a stream, up to k: the row that has grown -/
def Fso (s : ByteArray) (w : World) (k : Nat) (L : List Lp) (v : Value) (W : World) : Prop := Fr w.heap.size w L v W ∧ fd s = (L.map Lp.p ++ (fd (s.extract k s.size)).1, (fd (s.extract k s.size)).2) ∧ L.length ≤ k

theorem fso_end {s : ByteArray} {w W : World} {k : Nat} {L : List Lp} {ao : Option Addr} {co : Nat} {l : ByteArray} {x : Int} (h : Fso s w k L (.slice ao L.length co) W) (e : fd (s.extract k s.size) = ([], l, x)) : FeedPost w (fd s) (.returned (.tuple #[.slice ao L.length co, .string l, .int .i64 x])) W := by
  obtain ⟨h1, h2, _⟩ := h
  rw [e] at h2
  rw [h2]
  exact ⟨ao, co, L, rfl, by simp, h1.lies, h1.bel⟩
theorem fso_drew {s : ByteArray} {w W W' : World} {k : Nat} {L : List Lp} {v : Value} (h : Fso s w k L v W) (hb : Below W.heap.size W W') : Fso s w k L v W' := ⟨h.1.step hb, h.2⟩

set_option maxHeartbeats 8000000 in
set_option maxRecDepth 100000 in
theorem feedOf_any (s : ByteArray) (w : World) (hs : s.size ≤ 1048576) : Calls Tryz.prog 5 #[.string s] w (FeedPost w (fd s)) := by
  have H0 : Hid (Fso s w 0 [] (.slice none 0 0) w) := ⟨⟨Below.refl _ _, World.ownsRow_nil _ _ _ _, fun q hq => by cases hq⟩, by rw [cutL]; rfl, Nat.le_refl _⟩
  go_enter Tryz.func5, Tryz.ntmps5
  go_wp2
  go_loopw [0, 5] (fun sv ov wr => ∃ (k : Nat) (L : List Lp) (ao : Option Addr) (co : Nat), k ≤ s.size ∧ sv = .string (s.extract k s.size) ∧ ov = .slice ao L.length co ∧ Hid (Fso s w k L (.slice ao L.length co) wr)) (fun sv _ _ => match sv with | .string t => t.size | _ => 0)
  case atStart => exact ⟨0, [], none, 0, Nat.zero_le _, by rw [cutL], rfl, H0⟩
  case round =>
    obtain ⟨k, L, ao, co, hk, rfl, rfl, HS⟩ := hrel
    have hsz : (s.extract k s.size).size = s.size - k := by rw [ByteArray.size_extract]; omega
    have hLs := HS.out.2.2
    clear H0
    obtain ⟨t, ht⟩ : ∃ t, s.extract k s.size = t := ⟨_, rfl⟩
    by_cases hlt : k < s.size
    · have CG : Hid (∀ W, Calls Tryz.prog 12 #[.string t, .int .i64 1] W fun e w' => e = .returned (.tuple #[.int .i64 (glR t 1).1, .int .i64 (glR t 1).2.1, .int .i64 (glR t 1).2.2]) ∧ w' = W) := fun W => getLongOf_any t 1 W (by rw [← ht, hsz]; unfold maxLen; omega)
      have h0 : t.size ≠ 0 := by rw [← ht, hsz]; omega
      have htz : (t.size : Int) ≤ 1048576 := by rw [← ht, hsz]; omega
      have htp : 0 < (t.size : Int) := by omega
      have hts : t.size = s.size - k := by rw [← ht, hsz]
      have hE : szE t = if (glR t 1).2.2 ≠ 0 then (glR t 1).2.2 else if 600 < 1 + (glR t 1).2.1 + (glR t 1).1 then 2 else if (t.size : Int) < 1 + (glR t 1).2.1 + (glR t 1).1 then 8 else 0 := rfl
      have hN : szN t = if szE t = 0 then 1 + (glR t 1).2.1 + (glR t 1).1 else 0 := rfl
      have hb := glR_ok (s := t)
      rw [ht]
      generalize glR t 1 = g at *
      obtain ⟨m, u, x⟩ := g
      simp only at CG hE hN hb
      by_cases x8 : x = 8
      · subst x8
        have HQ := hide (fd_short h0 (hE.trans (if_pos (by decide))))
        rw [← ht] at HQ
        have HF := hide (fso_end HS.out HQ.out)
        rw [ht] at HF
        clear hE hN hb HS HQ hts
        go_wp2_with (go_at_call 12; refine (CG.out _).mono ?_; rintro x w' ⟨rfl, rfl⟩)
        exact bodyPost_ret (by simp [results, Tryz.results5, go_sem]) rfl HF.out
      · by_cases x0 : x = 0
        · subst x0
          obtain ⟨b1, b2, b3, b4⟩ := hb rfl
          rw [if_neg (by decide)] at hE
          clear hb x8
          by_cases c1 : 600 < 1 + u + m
          · rw [if_pos c1] at hE
            have HQ := hide (fd_bad h0 (by rw [hE]; decide) (by rw [hE]; decide))
            rw [hE, ← ht] at HQ
            have HF := hide (fso_end HS.out HQ.out)
            clear hE hN HS HQ hts
            go_wp2_with (go_at_call 12; refine (CG.out _).mono ?_; rintro x w' ⟨rfl, rfl⟩)
            exact bodyPost_ret (by simp [results, Tryz.results5, go_sem]) rfl HF.out
          · rw [if_neg c1] at hE
            by_cases c2 : (t.size : Int) < 1 + u + m
            · rw [if_pos c2] at hE
              have HQ := hide (fd_short h0 hE)
              rw [← ht] at HQ
              have HF := hide (fso_end HS.out HQ.out)
              rw [ht] at HF
              clear hE hN HS HQ hts
              go_wp2_with (go_at_call 12; refine (CG.out _).mono ?_; rintro x w' ⟨rfl, rfl⟩)
              exact bodyPost_ret (by simp [results, Tryz.results5, go_sem]) rfl HF.out
            · rw [if_neg c2] at hE
              rw [if_pos hE] at hN
              obtain ⟨n, hn⟩ : ∃ n : Nat, (n : Int) = 1 + u + m := ⟨(1 + u + m).toNat, by omega⟩
              have hnn : (szN t).toNat = n := by omega
              have hhd : hd t = t.extract 0 n := by unfold hd; rw [hnn]
              have htl : tl t = s.extract (k + n) s.size := by unfold tl; rw [hnn, ← ht]; exact cut_tl s k n (by omega)
              have htt : t.extract n t.size = s.extract (k + n) s.size := by rw [← ht]; exact cut_tl s k n (by omega)
              have hnt : (n : Int) ≤ t.size := by omega
              have hn2 : 2 ≤ n := by omega
              have hn6 : (n : Int) ≤ 600 := by omega
              have CP : Hid (∀ W, Calls Tryz.prog 13 #[.string (t.extract 0 n)] W fun e w' => ∃ aa ca ac cc, e = .returned (.tuple #[pkV (decP (t.extract 0 n)) aa ca ac cc, .int .i64 (decE (t.extract 0 n))]) ∧ PkInB W.heap.size w' (decP (t.extract 0 n)) aa ac ∧ Below W.heap.size W w') := fun W => by
                refine (pof_any (t.extract 0 n) W (by rw [ByteArray.size_extract]; omega)).mono ?_
                rintro e w' ⟨aa, ca, ac, cc, h1, h2, h3⟩
                exact ⟨aa, ca, ac, cc, h1, h2, h3⟩
              have HQ1 : Hid (decE (t.extract 0 n) = 0 → ∀ q V v, q.p = decP (t.extract 0 n) → Fr w.heap.size w (L ++ [q]) v V → Fso s w (k + n) (L ++ [q]) v V) := fun hd0 q V v hq hx => by
                have := fd_step h0 hE (by rw [hhd]; exact hd0)
                rw [hhd, htl] at this
                refine ⟨hx, ?_, by rw [List.length_append, List.length_singleton]; have := HS.out.2.2; omega⟩
                rw [HS.out.2.1, ht, this]
                simp [hq]
              have HQ2 : Hid (decE (t.extract 0 n) ≠ 0 → fd (s.extract k s.size) = ([], ⟨#[]⟩, decE (t.extract 0 n))) := fun hd0 => by
                have := fd_wrong h0 hE (by rw [hhd]; exact hd0)
                rw [ht]; rwa [hhd] at this
              have hkn : k + n ≤ s.size := by omega
              have HTS := hide hts
              clear hE hN hnn hhd htl c1 c2 hts
              generalize decE (t.extract 0 n) = DE at *
              generalize decP (t.extract 0 n) = P at *
              have hw : 1 + u + m = n := hn.symm
              have HTT := hide htt
              clear htt hn
              go_upto_region 11 with (first | (go_at_call 12; refine (CG.out _).mono ?_; rintro x w' ⟨rfl, he⟩; have he := he.symm; subst he) | (go_at_call 13; refine (CP.out _).mono ?_; rintro e w1 ⟨aa, ca, ac, cc, rfl, hin, hbl⟩; simp only [pkV]))
              have hsz1 := hbl.size
              have HS1 := hide (fso_drew HS.out hbl)
              have hown : Hid (∀ k, (Value.slice ao L.length co).ownBlock = some k → k < wr.heap.size) := fun k e => pown_lt HS.out.1.row e
              have hwr : Hid (w.heap.size ≤ wr.heap.size) := HS.out.1.bel.size
              have HF2 := hide (HS1.out.1.alloc (.cells (lpC ⟨P, aa, ca, ac, cc⟩).toArray 35))
              have HP2 : Hid ((w1.alloc (.cells (lpC ⟨P, aa, ca, ac, cc⟩).toArray 35)).heap[w1.heap.size]? = some (.cells (lpC ⟨P, aa, ca, ac, cc⟩).toArray 35 (0, 0))) := Go.heap_alloc_new w1 _
              have HI2 : Hid (PkInB wr.heap.size (w1.alloc (.cells (lpC ⟨P, aa, ca, ac, cc⟩).toArray 35)) P aa ac) := ⟨hin.1.alloc _, hin.2⟩
              have HFe : Hid (DE ≠ 0 → FeedPost w (fd s) (.returned (.tuple #[.slice ao L.length co, .string ⟨#[]⟩, .int .i64 DE])) (w1.alloc (.cells (lpC ⟨P, aa, ca, ac, cc⟩).toArray 35))) := fun h => fso_end (fso_drew HS1.out ((Below.refl _ _).alloc (Nat.le_refl _) _)) (HQ2.out h)
              have hs2 : (w1.alloc (.cells (lpC ⟨P, aa, ca, ac, cc⟩).toArray 35)).heap.size = w1.heap.size + 1 := by simp
              clear HS1 hin hbl HS HQ2 CG CP
              simp only [lpC] at HF2 HP2 HI2 HFe hs2
              revert HF2 HP2 HI2 HFe hs2
              generalize w1.alloc (.cells #[.int .i64 P.kind, .bool P.dup, .bool P.retain, .bool P.clean, .bool P.session, .int .i64 P.qos, .int .i64 P.id, .int .i64 P.keep, .int .i64 P.code, .string P.client, .string P.topic, .string P.payload, .slice aa P.asks.length ca, .slice ac P.codes.length cc] 35) = W2
              intro HF2 HP2 HI2 HFe hs2
              generalize w1.heap.size = b4 at *
              by_cases hE : DE = 0
              · subst hE
                have x1 := fun o => Lib.cell_of_heap HP2.out o
                have HF3 := hide (HF2.out.alloc (.cells (lpC ⟨P, aa, ca, ac, cc⟩).toArray 35))
                have HN3 : Hid (∀ j u, (lpC ⟨P, aa, ca, ac, cc⟩)[j]? = some u → (W2.alloc (.cells (lpC ⟨P, aa, ca, ac, cc⟩).toArray 35)).cell? ⟨b4 + 1, j, none⟩ = some u) := fun j u hu => by
                  rw [← hs2, Lib.cell_of_heap (Go.heap_alloc_new W2 _)]
                  simpa using hu
                have HR3 : Hid (Far w.heap.size (W2.alloc (.cells (lpC ⟨P, aa, ca, ac, cc⟩).toArray 35)) (Value.slice ao L.length co).ownBlock ⟨P, aa, ca, ac, cc⟩) :=
                  (Far.of_new (N := wr.heap.size) (q := ⟨P, aa, ca, ac, cc⟩) ⟨HI2.out.1.alloc _, HI2.out.2⟩ hown.out).mono hwr.out
                simp only [lpC] at HF3 HN3 HR3
                clear HF2 HP2 HI2 hown HFe
                go_wp2_with (at_builtin; refine wpP1 rfl _ _ rfl rfl (b4 + 1) 1 ⟨P, aa, ca, ac, cc⟩ rfl HF3.out HN3.out HR3.out (by omega) ?_)
                intro g cap W' hf hg
                have HS4 := hide (HQ1.out (by trivial) ⟨P, aa, ca, ac, cc⟩ W' _ rfl hf)
                clear hf hg HF3 HN3 HR3 x1 HQ1
                go_wp2
                go_round
                case rel => exact ⟨k + n, L ++ [⟨P, aa, ca, ac, cc⟩], some ⟨g, 0, none⟩, cap, hkn, by rw [HTT.out], by rw [List.length_append]; rfl, by rw [List.length_append]; exact HS4.out⟩
                case measure => have := HTS.out; simp; omega
              · have hE1 : (DE != 0) = true := by simp [hE]
                have HF := hide (HFe.out hE)
                clear HF2 HP2 HI2 hown HFe HQ1 hE
                go_wp2
                exact bodyPost_ret (by simp [results, Tryz.results5, go_sem]) rfl HF.out
        · have HQ := hide (fd_bad h0 (by rw [hE, if_pos x0]; exact x8) (by rw [hE, if_pos x0]; exact x0))
          rw [hE, if_pos x0, ← ht] at HQ
          have HF := hide (fso_end HS.out HQ.out)
          have x1 : (x == 8) = false := by simp [x8]
          have x2 : (x != 0) = true := by simp [x0]
          clear hE hN hb HS HQ x8 x0 hts
          go_wp2_with (go_at_call 12; refine (CG.out _).mono ?_; rintro x w' ⟨rfl, rfl⟩)
          exact bodyPost_ret (by simp [results, Tryz.results5, go_sem]) rfl HF.out
    · have hk' : k = s.size := by omega
      have HQ := hide (fd_nil (s := t) (by rw [← ht, hsz]; omega))
      have HF := hide (fso_end HS.out (by rw [ht]; exact HQ.out))
      have htz : (t.size : Int) = 0 := by rw [← ht, hsz]; omega
      rw [ht]
      clear HS HQ
      go_wp2
      exact bodyPost_ret (by simp [results, Tryz.results5, go_sem]) rfl HF.out
end Go.Proofs.YtnjdpibgfbbkcabGreatDoor
/-
  The walk of dragomanlaw.FrameFeeds: it answers true (bytes of no great size).
-/
namespace Go.Proofs.YtnjdpibgfbbkcabGreatDoor
open Go.RowKit Go.PlainAid

set_option maxHeartbeats 8000000 in
set_option maxRecDepth 100000 in
theorem frameFeeds_any (a b : ByteArray) {w : World} (hm : Max w) (ha : a.size ≤ 1048576) (hb0 : b.size ≤ 1048576) (hab : a.size + b.size ≤ 1048576) :
    Calls Tryz.prog 3 #[.string a, .string b] w fun e w' => e = .returned (.bool true) ∧ Below w.heap.size w w' := by
  have HM := hide hm
  have P1 := hide (fun V (h : Below w.heap.size w V) => packetBegun_yes V (hm.below h))
  have P2 := hide (fun V (h : Below w.heap.size w V) => frameBegun_yes V (hm.below h))
  have CF : Hid (Calls Tryz.prog 4 #[.string a, .string b] w (FeedPost w (fd (a ++ b)))) := feed_any a b w (by omega) hm
  have CO : Hid (∀ V, Calls Tryz.prog 5 #[.string (a ++ b)] V (FeedPost V (fd (a ++ b)))) := fun V => feedOf_any (a ++ b) V (by rw [ByteArray.size_append]; omega)
  have HR := hide (fd_right _ (a ++ b) (Nat.le_refl _))
  have hl : (fd (a ++ b)).1.length ≤ 1048576 := by have := HR.out.2; rw [ByteArray.size_append] at this; omega
  have z1 : (a.size : Int) ≤ 1048576 := by omega
  have z2 : (b.size : Int) ≤ 1048576 := by omega
  clear hm ha hb0 hab
  generalize fd (a ++ b) = R at *
  obtain ⟨l0, r0, e0⟩ := R
  simp only at HR hl
  go_enter Tryz.func3, Tryz.ntmps3
  go_wp2_with fail
  refine CF.out.mono ?_
  rintro e w1 ⟨ao, co, Q, rfl, hQ, hL, hb⟩
  have HB1 := hide hb
  have HL1 := hide hL
  have HQ1 := hide hQ
  clear hQ hL hb CF
  go_wp2_with fail
  refine (CO.out _).mono ?_
  rintro e w2 ⟨ab, cb, Q2, rfl, hQ, hL, hb⟩
  have HB2 := hide (below_step HB1.out hb)
  have HL2 := hide (HL1.out.step hb)
  have HK2 := hide hL
  have HQ2 := hide hQ
  clear hQ hL hb CO HB1 HL1
  go_wp2_with fail
  refine (P1.out _ HB2.out).mono ?_
  rintro e w3 ⟨rfl, hb⟩
  have HB3 := hide (below_step HB2.out hb)
  have HL3 := hide (HL2.out.step hb)
  have HK3 := hide (HK2.out.step hb)
  clear hb HB2 HL2 HK2
  go_wp2_with fail
  refine (P2.out _ HB3.out).mono ?_
  rintro e w4 ⟨rfl, hb⟩
  have HB4 := hide (below_step HB3.out hb)
  have HL4 := hide (HL3.out.step hb)
  have HK4 := hide (HK3.out.step hb)
  clear hb HB3 HL3 HK3 P1 P2
  have CS := hide (samePks_yes Q Q2 ao ab co cb w4 HL4.out HK4.out (by rw [HQ1.out, HQ2.out]) (fun q hq => HR.out.1 q.p (by have : q.p ∈ Q.map Lp.p := List.mem_map.2 ⟨q, hq, rfl⟩; rw [HQ1.out] at this; exact this)) (by have := congrArg List.length HQ1.out; simp only [List.length_map] at this; omega))
  clear HL4 HK4 HQ1 HQ2 HR
  go_wp2_with fail
  refine CS.out.mono ?_
  rintro e w5 ⟨rfl, hb⟩
  have HB5 := hide (below_step HB4.out hb)
  clear hb HB4 CS
  go_wp2
  go_ret
  exact ⟨rfl, HB5.out⟩
end Go.Proofs.YtnjdpibgfbbkcabGreatDoor
