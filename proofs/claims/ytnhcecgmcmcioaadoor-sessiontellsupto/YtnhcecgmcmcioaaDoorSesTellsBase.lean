/-
  SessionTells: results in boxes; sessionIs: what it answers.
-/
import Derived.Test.YtnhcecgmcmcioaaDoorSesSame
import Derived.Test.YtnhcecgmcmcioaaDoorSesRefCome
import Derived.Test.YtnhcecgmcmcioaaDoorSesRefSend
namespace Go.Proofs.YtnhcecgmcmcioaaDoor
open Go.RowKit Go.PlainAid

/-- a session and packets, the session in a box -/
structure Rt (N b : Nat) (R : Se × List Pk) (a1 : Option Addr) (c1 : Nat) (a2 : Option Addr) (c2 : Nat) (ao : Option Addr) (cs : Nat) (W : World) : Prop where
  box : SAt b R.1 (.slice a1 R.1.fl.length c1) (.slice a2 R.1.qu.length c2) W
  fl : FlsB N W a1 R.1.fl
  qu : FlsB N W a2 R.1.qu
  sent : ∃ M, N ≤ M ∧ W.ownsRow M 57 14 (.slice ao R.2.length cs) R.2.length (spCells R.2)
  le : N ≤ b
section
variable {N b : Nat} {R : Se × List Pk} {a1 a2 ao : Option Addr} {c1 c2 cs : Nat} {W W' : World}
theorem Rt.step (h : Rt N b R a1 c1 a2 c2 ao cs W) (hb : Below W.heap.size W W') : Rt N b R a1 c1 a2 c2 ao cs W' := by
  obtain ⟨M, hM, hs⟩ := h.sent
  exact ⟨h.box.after hb, h.fl.below hb, h.qu.below hb, ⟨M, hM, kown_below hs hb⟩, h.le⟩
theorem Rt.inn (h : Rt N b R a1 c1 a2 c2 ao cs W) : SeIn W R.1 a1 a2 := ⟨h.fl.inn, h.qu.inn⟩
theorem Rt.sp (h : Rt N b R a1 c1 a2 c2 ao cs W) : SpIn W ao R.2 := by
  obtain ⟨M, _, hs⟩ := h.sent
  exact own_sp hs rfl
/-- another box of a session is written -/
theorem Rt.six (h : Rt N b R a1 c1 a2 c2 ao cs W) {Z : Nat} {s0 : Se} {u0 u1 : Value} (hz : SAt Z s0 u0 u1 W) (hN : N ≤ Z) (hne : b ≠ Z) (v0 v1 v2 v3 v4 v5 : Value) : Rt N b R a1 c1 a2 c2 ao cs ((((((W.setCell ⟨Z, 0, none⟩ v0).setCell ⟨Z, 1, none⟩ v1).setCell ⟨Z, 2, none⟩ v2).setCell ⟨Z, 3, none⟩ v3).setCell ⟨Z, 4, none⟩ v4).setCell ⟨Z, 5, none⟩ v5) := by
  obtain ⟨M, hM, hs⟩ := h.sent
  refine ⟨?_, h.fl.six hN hz v0 v1 v2 v3 v4 v5, h.qu.six hN hz v0 v1 v2 v3 v4 v5, ⟨M, hM, kown_kept hs fun g hg => block_six W (fun e => kown_ne hs hz (by decide) (by rw [hg, e])) v0 v1 v2 v3 v4 v5⟩, h.le⟩
  have := h.box
  unfold SAt at *
  rw [block_six W hne v0 v1 v2 v3 v4 v5]; exact this
/-- it is stored itself -/
theorem Rt.put {s0 : Se} {u0 u1 : Value} (hz : SAt b s0 u0 u1 W) (hN : N ≤ b) (f1 : FlsB N W a1 R.1.fl) (f2 : FlsB N W a2 R.1.qu) {M : Nat} (hM : N ≤ M) (hs : W.ownsRow M 57 14 (.slice ao R.2.length cs) R.2.length (spCells R.2)) : Rt N b R a1 c1 a2 c2 ao cs ((((((W.setCell ⟨b, 0, none⟩ (.string R.1.client)).setCell ⟨b, 1, none⟩ (.bool R.1.on)).setCell ⟨b, 2, none⟩ (.bool R.1.clean)).setCell ⟨b, 3, none⟩ (.slice a1 R.1.fl.length c1)).setCell ⟨b, 4, none⟩ (.slice a2 R.1.qu.length c2)).setCell ⟨b, 5, none⟩ (.int .i64 R.1.next)) :=
  ⟨hz.six R.1 _ _, f1.six hN hz _ _ _ _ _ _, f2.six hN hz _ _ _ _ _ _, ⟨M, hM, kown_kept hs fun g hg => block_six W (fun e => kown_ne hs hz (by decide) (by rw [hg, e])) _ _ _ _ _ _⟩, hN⟩
/-- it is laid into a new box -/
theorem Rt.new (f1 : FlsB N W a1 R.1.fl) (f2 : FlsB N W a2 R.1.qu) {M : Nat} (hM : N ≤ M) (hs : W.ownsRow M 57 14 (.slice ao R.2.length cs) R.2.length (spCells R.2)) (hN : N ≤ W.heap.size) : Rt N W.heap.size R a1 c1 a2 c2 ao cs (W.alloc (.cells #[.string R.1.client, .bool R.1.on, .bool R.1.clean, .slice a1 R.1.fl.length c1, .slice a2 R.1.qu.length c2, .int .i64 R.1.next] 24)) := by
  have hal : Below W.heap.size W (W.alloc (.cells #[.string R.1.client, .bool R.1.on, .bool R.1.clean, .slice a1 R.1.fl.length c1, .slice a2 R.1.qu.length c2, .int .i64 R.1.next] 24)) := (Below.refl _ W).alloc (Nat.le_refl _) _
  exact ⟨sat_new R.1 _ _ W, f1.below hal, f2.below hal, ⟨M, hM, kown_below hs hal⟩, hN⟩
end
theorem flyS_sent : ∀ (k : Nat) (s : Se) (L : List Pk), (∀ p ∈ L, p.asks = [] ∧ p.codes = []) → (∀ p ∈ (flyS k s L).2, p.asks = [] ∧ p.codes = []) ∧ (flyS k s L).2.length ≤ L.length + k := by
  intro k
  induction k with
  | zero => intro s L h; exact ⟨h, Nat.le_refl _⟩
  | succ k ih =>
    intro s L h
    rw [flyS]
    cases s.qu with
    | nil => exact ⟨h, by simp⟩
    | cons f q =>
      simp only
      by_cases hc : s.on = true ∧ s.fl.length < 3
      · rw [if_pos hc]
        obtain ⟨i1, i2⟩ := ih ⟨s.client, s.on, s.clean, s.fl ++ [⟨frId s.fl 4 s.next, f.topic, f.load⟩], q, nxt (frId s.fl 4 s.next)⟩ (L ++ [flP ⟨frId s.fl 4 s.next, f.topic, f.load⟩ false]) (fun p hp => by
          rcases List.mem_append.1 hp with hp | hp
          · exact h p hp
          · rw [List.mem_singleton] at hp; subst hp; exact ⟨rfl, rfl⟩)
        refine ⟨i1, ?_⟩
        simp only [List.length_append, List.length_cons, List.length_nil] at i2
        omega
      · rw [if_neg hc]; exact ⟨h, by simp⟩
/-- what is sent bears no lists, and is short -/
def Okp (L : List Pk) : Prop := (∀ p ∈ L, p.asks = [] ∧ p.codes = []) ∧ L.length ≤ 1048576
theorem okp_nil : Okp [] := ⟨(fun p hp => by cases hp), by simp⟩

set_option maxHeartbeats 8000000 in
set_option maxRecDepth 100000 in
theorem sessionIs_yes (R X : Se × List Pk) (E : Int) (a1 a2 ao x1 x2 xo : Option Addr) (c1 c2 cs y1 y2 ys : Nat) (w : World) (h1 : SeIn w R.1 a1 a2) (h2 : SpIn w ao R.2) (h3 : SeIn w X.1 x1 x2) (h4 : SpIn w xo X.2) (hX : E = 0 → X = R) (hE : E ≠ 0 → R = (zeroSe, [])) (hk : Okp R.2) (hf : R.1.fl.length ≤ 1048576) (hq : R.1.qu.length ≤ 1048576) :
    Calls Tryd.prog 17 #[.agg #[.string R.1.client, .bool R.1.on, .bool R.1.clean, .slice a1 R.1.fl.length c1, .slice a2 R.1.qu.length c2, .int .i64 R.1.next], .slice ao R.2.length cs, .int .i64 E, .int .i64 E, .agg #[.string X.1.client, .bool X.1.on, .bool X.1.clean, .slice x1 X.1.fl.length y1, .slice x2 X.1.qu.length y2, .int .i64 X.1.next], .slice xo X.2.length ys] w fun e w' => e = .returned (.bool true) ∧ Below w.heap.size w w' := by
  have HB0 := hide (((Below.refl w.heap.size w).alloc (Nat.le_refl _) (.cells #[.string R.1.client, .bool R.1.on, .bool R.1.clean, .slice a1 R.1.fl.length c1, .slice a2 R.1.qu.length c2, .int .i64 R.1.next] 24)).alloc (by simp) (.cells #[.string X.1.client, .bool X.1.on, .bool X.1.clean, .slice x1 X.1.fl.length y1, .slice x2 X.1.qu.length y2, .int .i64 X.1.next] 24))
  have D1 : Hid (SAt w.heap.size R.1 (.slice a1 R.1.fl.length c1) (.slice a2 R.1.qu.length c2) ((w.alloc (.cells #[.string R.1.client, .bool R.1.on, .bool R.1.clean, .slice a1 R.1.fl.length c1, .slice a2 R.1.qu.length c2, .int .i64 R.1.next] 24)).alloc (.cells #[.string X.1.client, .bool X.1.on, .bool X.1.clean, .slice x1 X.1.fl.length y1, .slice x2 X.1.qu.length y2, .int .i64 X.1.next] 24))) := by
    show _ = _; rw [Below.heap_alloc _ _ _ (by simp)]; exact sat_new R.1 _ _ w
  have D2 : Hid (SAt (w.heap.size + 1) X.1 (.slice x1 X.1.fl.length y1) (.slice x2 X.1.qu.length y2) ((w.alloc (.cells #[.string R.1.client, .bool R.1.on, .bool R.1.clean, .slice a1 R.1.fl.length c1, .slice a2 R.1.qu.length c2, .int .i64 R.1.next] 24)).alloc (.cells #[.string X.1.client, .bool X.1.on, .bool X.1.clean, .slice x1 X.1.fl.length y1, .slice x2 X.1.qu.length y2, .int .i64 X.1.next] 24))) := by
    have := sat_new X.1 (.slice x1 X.1.fl.length y1) (.slice x2 X.1.qu.length y2) (w.alloc (.cells #[.string R.1.client, .bool R.1.on, .bool R.1.clean, .slice a1 R.1.fl.length c1, .slice a2 R.1.qu.length c2, .int .i64 R.1.next] 24))
    simp only [World.size_alloc] at this
    exact this
  have H1 := hide h1
  have H2 := hide h2
  have H3 := hide h3
  have H4 := hide h4
  have HK := hide hk
  have HX := hide hX
  have HE := hide hE
  clear h1 h2 h3 h4 hk hX hE
  go_enter Tryd.func17, Tryd.ntmps17
  go_upto_region 1 with fail
  revert HB0 D1 D2
  generalize (w.alloc (.cells #[.string R.1.client, .bool R.1.on, .bool R.1.clean, .slice a1 R.1.fl.length c1, .slice a2 R.1.qu.length c2, .int .i64 R.1.next] 24)).alloc (.cells #[.string X.1.client, .bool X.1.on, .bool X.1.clean, .slice x1 X.1.fl.length y1, .slice x2 X.1.qu.length y2, .int .i64 X.1.next] 24) = W0
  intro HB0 D1 D2
  by_cases h0 : E = 0
  · have h0b : (E != 0) = false := by simp [h0]
    obtain rfl := HX.out h0
    clear HX HE
    have CS : Hid (∀ V, Below w.heap.size w V → Calls Tryd.prog 42 #[.agg #[.string X.1.client, .bool X.1.on, .bool X.1.clean, .slice a1 X.1.fl.length c1, .slice a2 X.1.qu.length c2, .int .i64 X.1.next], .agg #[.string X.1.client, .bool X.1.on, .bool X.1.clean, .slice x1 X.1.fl.length y1, .slice x2 X.1.qu.length y2, .int .i64 X.1.next]] V fun e w' => e = .returned (.bool true) ∧ Below V.heap.size V w') := fun V hV => sameSes_yes X.1 a1 a2 x1 x2 c1 c2 y1 y2 V (H1.out.below hV) (H3.out.below hV) hf hq
    have CP : Hid (∀ V, Below w.heap.size w V → Calls Tryd.prog 43 #[.slice ao X.2.length cs, .slice xo X.2.length ys] V fun e w' => e = .returned (.bool true) ∧ Below V.heap.size V w') := fun V hV => sameSp_yes X.2 ao xo cs ys V (H2.out.below hV) (H4.out.below hV) HK.out.1 HK.out.2
    have e1 := D1.out.cell
    have e2 := D2.out.cell
    clear h0
    go_wp2_with fail
    refine (CS.out _ HB0.out).mono ?_
    rintro e w1 ⟨rfl, hb⟩
    have HB1 := hide (below_step HB0.out hb)
    clear hb HB0 e1 e2 CS
    go_wp2_with fail
    refine (CP.out _ HB1.out).mono ?_
    rintro e w2 ⟨rfl, hb⟩
    have HB2 := hide (below_step HB1.out hb)
    clear hb HB1 CP
    go_wp2
    go_ret
    exact ⟨rfl, HB2.out⟩
  · have h0b : (E != 0) = true := by simp [h0]
    have hR := HE.out h0
    subst hR
    clear HX HE h0
    simp only [zeroSe, List.length_nil] at D1 H1 H2 HK ⊢
    have CS : Hid (∀ V, Below w.heap.size w V → Calls Tryd.prog 42 #[.agg #[.string ⟨#[]⟩, .bool false, .bool false, .slice a1 0 c1, .slice a2 0 c2, .int .i64 0], .agg #[.string ⟨#[]⟩, .bool false, .bool false, .slice none 0 0, .slice none 0 0, .int .i64 0]] V fun e w' => e = .returned (.bool true) ∧ Below V.heap.size V w') := fun V hV => sameSes_yes zeroSe a1 a2 none none c1 c2 0 0 V ⟨.inl rfl, .inl rfl⟩ ⟨.inl rfl, .inl rfl⟩ (by simp [zeroSe]) (by simp [zeroSe])
    have CP : Hid (∀ V, Below w.heap.size w V → Calls Tryd.prog 43 #[.slice ao 0 cs, .slice none 0 0] V fun e w' => e = .returned (.bool true) ∧ Below V.heap.size V w') := fun V hV => sameSp_yes [] ao none cs 0 V (.inl rfl) (.inl rfl) (fun p hp => by cases hp) (by simp)
    have e2 := D2.out.cell
    have e3 := D2.out.frozen
    go_upto_region 3 with fail
    have DZ := hide (D2.out.six zeroSe (.slice none 0 0) (.slice none 0 0))
    have D1Z : Hid (SAt w.heap.size zeroSe (.slice a1 0 c1) (.slice a2 0 c2) ((((((W0.setCell ⟨w.heap.size + 1, 0, none⟩ (.string ⟨#[]⟩)).setCell ⟨w.heap.size + 1, 1, none⟩ (.bool false)).setCell ⟨w.heap.size + 1, 2, none⟩ (.bool false)).setCell ⟨w.heap.size + 1, 3, none⟩ (.slice none 0 0)).setCell ⟨w.heap.size + 1, 4, none⟩ (.slice none 0 0)).setCell ⟨w.heap.size + 1, 5, none⟩ (.int .i64 0))) := by
      refine hide ?_
      have := D1.out
      unfold SAt at *
      rw [block_six W0 (by omega) _ _ _ _ _ _]; exact this
    have HBZ := hide (ssix_below HB0.out (show w.heap.size ≤ w.heap.size + 1 by omega) (.string ⟨#[]⟩) (.bool false) (.bool false) (.slice none 0 0) (.slice none 0 0) (.int .i64 0))
    simp only [zeroSe] at DZ
    clear D1 D2 e2 e3 HB0
    revert DZ D1Z HBZ
    generalize (((((W0.setCell ⟨w.heap.size + 1, 0, none⟩ (.string ⟨#[]⟩)).setCell ⟨w.heap.size + 1, 1, none⟩ (.bool false)).setCell ⟨w.heap.size + 1, 2, none⟩ (.bool false)).setCell ⟨w.heap.size + 1, 3, none⟩ (.slice none 0 0)).setCell ⟨w.heap.size + 1, 4, none⟩ (.slice none 0 0)).setCell ⟨w.heap.size + 1, 5, none⟩ (.int .i64 0) = W1
    intro DZ D1Z HBZ
    have e1 : ∀ o, W1.cell? ⟨w.heap.size, o, none⟩ = (#[.string ⟨#[]⟩, .bool false, .bool false, .slice a1 0 c1, .slice a2 0 c2, .int .i64 0] : Array Value)[o]? := D1Z.out.cell
    have e2 : ∀ o, W1.cell? ⟨w.heap.size + 1, o, none⟩ = (#[.string ⟨#[]⟩, .bool false, .bool false, .slice none 0 0, .slice none 0 0, .int .i64 0] : Array Value)[o]? := DZ.out.cell
    go_wp2_with fail
    refine (CS.out _ HBZ.out).mono ?_
    rintro e w1 ⟨rfl, hb⟩
    have HB1 := hide (below_step HBZ.out hb)
    clear hb HBZ e1 e2 CS
    go_wp2_with fail
    refine (CP.out _ HB1.out).mono ?_
    rintro e w2 ⟨rfl, hb⟩
    have HB2 := hide (below_step HB1.out hb)
    clear hb HB1 CP
    go_wp2
    go_ret
    exact ⟨rfl, HB2.out⟩
end Go.Proofs.YtnhcecgmcmcioaaDoor
