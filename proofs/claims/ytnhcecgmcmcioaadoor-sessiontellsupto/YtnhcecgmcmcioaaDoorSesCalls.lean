/-
  session.Come, Go, Landed, Send: what they answer.
-/
import Derived.Test.YtnhcecgmcmcioaaDoorSesSendGo
import Derived.Test.YtnhcecgmcmcioaaDoorSesSendLand
import Derived.Test.YtnhcecgmcmcioaaDoorSesSendSend
import Derived.Test.YtnhcecgmcmcioaaDoorSesLand
import Derived.Deep.RegionLaw
namespace Go.Proofs.YtnhcecgmcmcioaaDoor
open Go.RowKit Go.PlainAid

def sesE (s : Se) (asked : Int) : Int := if chkS s ≠ 0 then chkS s else asked
/-- what is answered beside an errno -/
def resS (E : Int) (R : Se × List Pk) : Se × List Pk := if E ≠ 0 then (zeroSe, []) else R
/-- what a call of sessions answers -/
def SPost (E : Int) (R : Se × List Pk) (w : World) (e : Ending) (w' : World) : Prop :=
  ∃ a1 c1 a2 c2 ao cs, e = .returned (.tuple #[.agg #[.string R.1.client, .bool R.1.on, .bool R.1.clean, .slice a1 R.1.fl.length c1, .slice a2 R.1.qu.length c2, .int .i64 R.1.next], .slice ao R.2.length cs, .int .i64 E]) ∧ OutS w.heap.size R a1 c1 a2 c2 ao cs w' ∧ Below w.heap.size w w'
theorem SendPost.out {s : Se} {asked : Int} {R : Se × List Pk} {w : World} {e : Ending} {w' : World} (h : SendPost s asked R w e w') : SPost (sesE s asked) (resS (sesE s asked) R) w e w' := by
  obtain ⟨hb, h⟩ := h
  have zo : OutS w.heap.size (zeroSe, []) none 0 none 0 none 0 w' := ⟨.inl rfl, .inl rfl, Nat.le_refl _, Nat.le_refl _, World.ownsRow_nil _ _ _ _⟩
  unfold sesE resS
  by_cases h1 : chkS s ≠ 0
  · rw [if_pos h1] at h ⊢
    rw [if_pos h1]
    exact ⟨none, 0, none, 0, none, 0, h, zo, hb⟩
  · rw [if_neg h1] at h ⊢
    by_cases h2 : asked ≠ 0
    · rw [if_pos h2] at h ⊢
      exact ⟨none, 0, none, 0, none, 0, h, zo, hb⟩
    · rw [if_neg h2] at h ⊢
      obtain ⟨a1, c1, a2, c2, ao, cs, he, ho⟩ := h
      have h3 : asked = 0 := by simpa using h2
      subst h3
      exact ⟨a1, c1, a2, c2, ao, cs, he, ho, hb⟩
theorem out_six {N Z : Nat} {R : Se × List Pk} {a1 a2 ao : Option Addr} {c1 c2 cs : Nat} {W : World} (h : OutS N R a1 c1 a2 c2 ao cs W) (hZ : Z < N) (x y z u p q : Value) : OutS N R a1 c1 a2 c2 ao cs ((((((W.setCell ⟨Z, 0, none⟩ x).setCell ⟨Z, 1, none⟩ y).setCell ⟨Z, 2, none⟩ z).setCell ⟨Z, 3, none⟩ u).setCell ⟨Z, 4, none⟩ p).setCell ⟨Z, 5, none⟩ q) :=
  h.kept fun g hg => by
    have hgz : g ≠ Z := by omega
    rw [Below.heap_setCell _ _ _ _ hgz, Below.heap_setCell _ _ _ _ hgz, Below.heap_setCell _ _ _ _ hgz, Below.heap_setCell _ _ _ _ hgz, Below.heap_setCell _ _ _ _ hgz, Below.heap_setCell _ _ _ _ hgz]

def comeR (s : Se) : Se × List Pk := resS (chkS s) (flyS 3 { s with on := true } (s.fl.map (flP · true)))
def goR (s : Se) : Se := (resS (chkS s) (goS s, [])).1
def landR (s : Se) (id : Int) : Se × List Pk := resS (chkS s) (landS id s)
def sendE (s : Se) (t p : ByteArray) (q : Int) : Int := sesE s (askedE t p q)
def sendR (s : Se) (t p : ByteArray) (q : Int) : Se × List Pk := resS (sendE s t p q) (sendS s t p q)
theorem sesE_0 (s : Se) : sesE s 0 = chkS s := by unfold sesE; split <;> simp_all
theorem askedE_small {t p : ByteArray} {q : Int} (h : askedE t p q = 0) : t.size ≤ 60 ∧ p.size ≤ 200 ∧ (q = 0 ∨ q = 1) := by
  unfold askedE at h
  by_cases h1 : toldE t p ≠ 0
  · rw [if_pos h1] at h; exact absurd h h1
  · rw [if_neg h1] at h
    by_cases h2 : q = 0 ∨ q = 1
    · have := toldE_small (t := t) (p := p) (by simpa using h1)
      exact ⟨this.1, this.2, h2⟩
    · rw [if_neg h2] at h; cases h
theorem acts_land {s : Se} {c : Nat} {id : Int} (h : chkS s = 0) : Acts 24 #[.pointer (some ⟨c, 0, none⟩)] (fun V => V.heap[c]? = some (.cells #[.int .i64 id] 3 (0, 0))) s (landS id s) := fun N b M a1 c1 a2 c2 w W hk hq => by
  obtain ⟨g1, g2, g3, g4, g5⟩ := chkS_small h
  exact landAct_any N b M c id s a1 a2 c1 c2 w W hq hk g2 g5 (by omega) (fun f hf => by have := g4 f hf; omega)
theorem acts_send {s : Se} {c c1 c2 : Nat} {t p : ByteArray} {q : Int} (h : chkS s = 0) (hE : askedE t p q = 0) : Acts 20 #[.pointer (some ⟨c, 0, none⟩), .pointer (some ⟨c1, 0, none⟩), .pointer (some ⟨c2, 0, none⟩)] (fun V => V.cell? ⟨c, 0, none⟩ = some (.int .i64 q) ∧ V.cell? ⟨c1, 0, none⟩ = some (.string t) ∧ V.cell? ⟨c2, 0, none⟩ = some (.string p)) s (sendS s t p q) := fun N b M a1 e1 a2 e2 w W hk hq => by
  obtain ⟨g1, g2, g3, g4, g5⟩ := chkS_small h
  obtain ⟨k1, k2, _⟩ := askedE_small hE
  exact sendAct_any N b M c c1 c2 q t p s a1 a2 e1 e2 w W hq hk.1 hk.2.1 hk.2.2 (by omega) (by omega) g2 g5 (by omega) (fun f hf => by have := g4 f (.inr hf); omega)

set_option maxHeartbeats 4000000 in
set_option maxRecDepth 100000 in
theorem come_any (s : Se) (aa ab : Option Addr) (ca cb : Nat) (w : World) (hs : SeIn w s aa ab) (hca : s.fl.length ≤ ca) (hm : Max w) :
    Calls Tryd.prog 7 #[seV s aa ca ab cb] w (SPost (chkS s) (comeR s) w) := by
  have CS : Hid (∀ V, Below w.heap.size w V → Calls Tryd.prog 18 #[.agg #[.string s.client, .bool s.on, .bool s.clean, .slice aa s.fl.length ca, .slice ab s.qu.length cb, .int .i64 s.next], .int .i64 0, .func (.func 27) #[] #[]] V (SPost (chkS s) (comeR s) V)) := fun V h => by
    refine (sendingCome_any s _ aa ab ca cb V (hs.below h) hca (hm.below h) (fun _ => True) (fun _ _ => trivial) 0 (fun h0 _ => acts_come h0)).mono fun e w' h' => ?_
    have := h'.out
    rw [sesE_0] at this
    exact this
  have D0 : Hid (SAt w.heap.size s (.slice aa s.fl.length ca) (.slice ab s.qu.length cb) ((w.alloc (.cells #[.string s.client, .bool s.on, .bool s.clean, .slice aa s.fl.length ca, .slice ab s.qu.length cb, .int .i64 s.next] 24)).alloc (.cells #[.string ⟨#[]⟩, .bool false, .bool false, .slice none 0 0, .slice none 0 0, .int .i64 0] 24))) := by
    show _ = _; rw [Below.heap_alloc _ _ _ (by simp)]; exact sat_new s _ _ w
  have Z0 : Hid (SAt (w.heap.size + 1) zeroSe (.slice none 0 0) (.slice none 0 0) ((w.alloc (.cells #[.string s.client, .bool s.on, .bool s.clean, .slice aa s.fl.length ca, .slice ab s.qu.length cb, .int .i64 s.next] 24)).alloc (.cells #[.string ⟨#[]⟩, .bool false, .bool false, .slice none 0 0, .slice none 0 0, .int .i64 0] 24))) := by
    have := sat_new zeroSe (.slice none 0 0) (.slice none 0 0) (w.alloc (.cells #[.string s.client, .bool s.on, .bool s.clean, .slice aa s.fl.length ca, .slice ab s.qu.length cb, .int .i64 s.next] 24))
    simp only [World.size_alloc] at this
    exact this
  have HB0 := hide (((Below.refl w.heap.size w).alloc (Nat.le_refl _) (.cells #[.string s.client, .bool s.on, .bool s.clean, .slice aa s.fl.length ca, .slice ab s.qu.length cb, .int .i64 s.next] 24)).alloc (by simp) (.cells #[.string ⟨#[]⟩, .bool false, .bool false, .slice none 0 0, .slice none 0 0, .int .i64 0] 24))
  clear hs hm
  generalize comeR s = R at *
  generalize chkS s = E at *
  simp only [seV]
  go_enter Tryd.func7, Tryd.ntmps7
  go_upto_region 1 with fail
  revert D0 Z0 HB0
  generalize (w.alloc (.cells #[.string s.client, .bool s.on, .bool s.clean, .slice aa s.fl.length ca, .slice ab s.qu.length cb, .int .i64 s.next] 24)).alloc (.cells #[.string ⟨#[]⟩, .bool false, .bool false, .slice none 0 0, .slice none 0 0, .int .i64 0] 24) = W0
  intro D0 Z0 HB0
  have x1 := D0.out.cell
  go_wp2_with fail
  refine (CS.out _ HB0.out).mono ?_
  rintro e w1 ⟨a1, c1, a2, c2, ao, cs, rfl, ho, hb⟩
  have hzl := Z0.out.lt
  have Z1 := hide (Z0.out.after hb)
  have HB1 := hide (below_step HB0.out hb)
  have HO := hide (((out_six ho hzl (.string R.1.client) (.bool R.1.on) (.bool R.1.clean) (.slice a1 R.1.fl.length c1) (.slice a2 R.1.qu.length c2) (.int .i64 R.1.next))).mono HB0.out.size)
  have HB := hide (ssix_below HB1.out (show w.heap.size ≤ w.heap.size + 1 by omega) (.string R.1.client) (.bool R.1.on) (.bool R.1.clean) (.slice a1 R.1.fl.length c1) (.slice a2 R.1.qu.length c2) (.int .i64 R.1.next))
  clear ho hb x1 D0 Z0 HB0 HB1 CS hzl
  have z1 := Z1.out.cell
  have z2 := Z1.out.frozen
  simp only [zeroSe] at z1
  go_wp2
  exact bodyPost_ret (v := .tuple #[.agg #[.string R.1.client, .bool R.1.on, .bool R.1.clean, .slice a1 R.1.fl.length c1, .slice a2 R.1.qu.length c2, .int .i64 R.1.next], .slice ao R.2.length cs, .int .i64 E]) (by simp [results, Tryd.results7, go_sem, World.cell?_setCell_same, z1]) rfl ⟨a1, c1, a2, c2, ao, cs, rfl, HO.out, HB.out⟩
set_option maxHeartbeats 4000000 in
set_option maxRecDepth 100000 in
theorem go_any (s : Se) (aa ab : Option Addr) (ca cb : Nat) (w : World) (hs : SeIn w s aa ab) (hca : s.fl.length ≤ ca) (hm : Max w) :
    Calls Tryd.prog 8 #[seV s aa ca ab cb] w fun e w' => ∃ a1 c1 a2 c2, e = .returned (.tuple #[.agg #[.string (goR s).client, .bool (goR s).on, .bool (goR s).clean, .slice a1 (goR s).fl.length c1, .slice a2 (goR s).qu.length c2, .int .i64 (goR s).next], .int .i64 (chkS s)]) ∧ OutS w.heap.size (goR s, []) a1 c1 a2 c2 none 0 w' ∧ Below w.heap.size w w' := by
  have CS : Hid (∀ V, Below w.heap.size w V → Calls Tryd.prog 18 #[.agg #[.string s.client, .bool s.on, .bool s.clean, .slice aa s.fl.length ca, .slice ab s.qu.length cb, .int .i64 s.next], .int .i64 0, .func (.func 29) #[] #[]] V (SPost (chkS s) (resS (chkS s) (goS s, [])) V)) := fun V h => by
    refine (sendingGo_any s _ aa ab ca cb V (hs.below h) hca (hm.below h) (fun _ => True) (fun _ _ => trivial) 0 (fun _ _ => acts_go s)).mono fun e w' h' => ?_
    have := h'.out
    rw [sesE_0] at this
    exact this
  have D0 : Hid (SAt w.heap.size s (.slice aa s.fl.length ca) (.slice ab s.qu.length cb) ((w.alloc (.cells #[.string s.client, .bool s.on, .bool s.clean, .slice aa s.fl.length ca, .slice ab s.qu.length cb, .int .i64 s.next] 24)).alloc (.cells #[.string ⟨#[]⟩, .bool false, .bool false, .slice none 0 0, .slice none 0 0, .int .i64 0] 24))) := by
    show _ = _; rw [Below.heap_alloc _ _ _ (by simp)]; exact sat_new s _ _ w
  have Z0 : Hid (SAt (w.heap.size + 1) zeroSe (.slice none 0 0) (.slice none 0 0) ((w.alloc (.cells #[.string s.client, .bool s.on, .bool s.clean, .slice aa s.fl.length ca, .slice ab s.qu.length cb, .int .i64 s.next] 24)).alloc (.cells #[.string ⟨#[]⟩, .bool false, .bool false, .slice none 0 0, .slice none 0 0, .int .i64 0] 24))) := by
    have := sat_new zeroSe (.slice none 0 0) (.slice none 0 0) (w.alloc (.cells #[.string s.client, .bool s.on, .bool s.clean, .slice aa s.fl.length ca, .slice ab s.qu.length cb, .int .i64 s.next] 24))
    simp only [World.size_alloc] at this
    exact this
  have HB0 := hide (((Below.refl w.heap.size w).alloc (Nat.le_refl _) (.cells #[.string s.client, .bool s.on, .bool s.clean, .slice aa s.fl.length ca, .slice ab s.qu.length cb, .int .i64 s.next] 24)).alloc (by simp) (.cells #[.string ⟨#[]⟩, .bool false, .bool false, .slice none 0 0, .slice none 0 0, .int .i64 0] 24))
  clear hs hm
  have HGR : Hid (goR s = (resS (chkS s) (goS s, [])).1) := rfl
  generalize goR s = G at *
  generalize resS (chkS s) (goS s, []) = R at *
  generalize chkS s = E at *
  simp only [seV]
  go_enter Tryd.func8, Tryd.ntmps8
  go_upto_region 1 with fail
  revert D0 Z0 HB0
  generalize (w.alloc (.cells #[.string s.client, .bool s.on, .bool s.clean, .slice aa s.fl.length ca, .slice ab s.qu.length cb, .int .i64 s.next] 24)).alloc (.cells #[.string ⟨#[]⟩, .bool false, .bool false, .slice none 0 0, .slice none 0 0, .int .i64 0] 24) = W0
  intro D0 Z0 HB0
  have x1 := D0.out.cell
  go_wp2_with fail
  refine (CS.out _ HB0.out).mono ?_
  rintro e w1 ⟨a1, c1, a2, c2, ao, cs, rfl, ho, hb⟩
  have hzl := Z0.out.lt
  have Z1 := hide (Z0.out.after hb)
  have HB1 := hide (below_step HB0.out hb)
  have ho2 := ho.below (W' := w1.alloc (.cells #[.string R.1.client, .bool R.1.on, .bool R.1.clean, .slice a1 R.1.fl.length c1, .slice a2 R.1.qu.length c2, .int .i64 R.1.next] 24)) ((Below.refl _ w1).alloc (Nat.le_refl _) _)
  have HO := hide (((out_six ho2 hzl (.string R.1.client) (.bool R.1.on) (.bool R.1.clean) (.slice a1 R.1.fl.length c1) (.slice a2 R.1.qu.length c2) (.int .i64 R.1.next))).mono HB0.out.size)
  have HB := hide (ssix_below (HB1.out.alloc HB1.out.size (.cells #[.string R.1.client, .bool R.1.on, .bool R.1.clean, .slice a1 R.1.fl.length c1, .slice a2 R.1.qu.length c2, .int .i64 R.1.next] 24)) (show w.heap.size ≤ w.heap.size + 1 by omega) (.string R.1.client) (.bool R.1.on) (.bool R.1.clean) (.slice a1 R.1.fl.length c1) (.slice a2 R.1.qu.length c2) (.int .i64 R.1.next))
  have Z1 := hide (Z1.out.after (w' := w1.alloc (.cells #[.string R.1.client, .bool R.1.on, .bool R.1.clean, .slice a1 R.1.fl.length c1, .slice a2 R.1.qu.length c2, .int .i64 R.1.next] 24)) ((Below.refl _ w1).alloc (Nat.le_refl _) _))
  clear ho ho2 hb x1 D0 Z0 HB0 HB1 CS hzl
  have z1 := Z1.out.cell
  have z2 := Z1.out.frozen
  simp only [zeroSe] at z1
  go_wp2
  exact bodyPost_ret (v := .tuple #[.agg #[.string R.1.client, .bool R.1.on, .bool R.1.clean, .slice a1 R.1.fl.length c1, .slice a2 R.1.qu.length c2, .int .i64 R.1.next], .int .i64 E]) (by simp [results, Tryd.results8, go_sem, World.cell?_setCell_same, z1]) rfl ⟨a1, c1, a2, c2, by rw [HGR.out], by rw [HGR.out]; exact ⟨HO.out.fl, HO.out.qu, HO.out.cf, HO.out.cq, World.ownsRow_nil _ _ _ _⟩, HB.out⟩
set_option maxHeartbeats 4000000 in
set_option maxRecDepth 100000 in
theorem landed_any (s : Se) (aa ab : Option Addr) (ca cb : Nat) (id : Int) (w : World) (hs : SeIn w s aa ab) (hca : s.fl.length ≤ ca) (hm : Max w) :
    Calls Tryd.prog 6 #[seV s aa ca ab cb, .int .i64 id] w (SPost (chkS s) (landR s id) w) := by
  have CS : Hid (∀ V, Below w.heap.size w V → V.heap[w.heap.size + 1]? = some (.cells #[.int .i64 id] 3 (0, 0)) → Calls Tryd.prog 18 #[.agg #[.string s.client, .bool s.on, .bool s.clean, .slice aa s.fl.length ca, .slice ab s.qu.length cb, .int .i64 s.next], .int .i64 0, .func (.func 24) #[] #[.pointer (some ⟨w.heap.size + 1, 0, none⟩)]] V (SPost (chkS s) (landR s id) V)) := fun V h hV => by
    refine (sendingLand_any s _ aa ab ca cb V (hs.below h) hca (w.heap.size + 1) (hm.below h) (fun V => V.heap[w.heap.size + 1]? = some (.cells #[.int .i64 id] 3 (0, 0))) (fun U hU => (hU.block _ (Array.getElem?_eq_some_iff.1 hV).1).trans hV) 0 (fun h0 _ => acts_land h0)).mono fun e w' h' => ?_
    have := h'.out
    rw [sesE_0] at this
    exact this
  have D0 : Hid (SAt w.heap.size s (.slice aa s.fl.length ca) (.slice ab s.qu.length cb) (((w.alloc (.cells #[.string s.client, .bool s.on, .bool s.clean, .slice aa s.fl.length ca, .slice ab s.qu.length cb, .int .i64 s.next] 24)).alloc (.cells #[.int .i64 id] 3)).alloc (.cells #[.string ⟨#[]⟩, .bool false, .bool false, .slice none 0 0, .slice none 0 0, .int .i64 0] 24))) := by
    show _ = _; rw [Below.heap_alloc _ _ _ (by simp; omega), Below.heap_alloc _ _ _ (by simp)]; exact sat_new s _ _ w
  have N0 : Hid ((((w.alloc (.cells #[.string s.client, .bool s.on, .bool s.clean, .slice aa s.fl.length ca, .slice ab s.qu.length cb, .int .i64 s.next] 24)).alloc (.cells #[.int .i64 id] 3)).alloc (.cells #[.string ⟨#[]⟩, .bool false, .bool false, .slice none 0 0, .slice none 0 0, .int .i64 0] 24)).heap[w.heap.size + 1]? = some (.cells #[.int .i64 id] 3 (0, 0))) := by
    refine hide ?_
    rw [Below.heap_alloc _ _ _ (by simp)]
    have := Go.heap_alloc_new (w.alloc (.cells #[.string s.client, .bool s.on, .bool s.clean, .slice aa s.fl.length ca, .slice ab s.qu.length cb, .int .i64 s.next] 24)) (.cells #[.int .i64 id] 3)
    simp only [World.size_alloc] at this
    exact this
  have Z0 : Hid (SAt (w.heap.size + 2) zeroSe (.slice none 0 0) (.slice none 0 0) (((w.alloc (.cells #[.string s.client, .bool s.on, .bool s.clean, .slice aa s.fl.length ca, .slice ab s.qu.length cb, .int .i64 s.next] 24)).alloc (.cells #[.int .i64 id] 3)).alloc (.cells #[.string ⟨#[]⟩, .bool false, .bool false, .slice none 0 0, .slice none 0 0, .int .i64 0] 24))) := by
    have := sat_new zeroSe (.slice none 0 0) (.slice none 0 0) ((w.alloc (.cells #[.string s.client, .bool s.on, .bool s.clean, .slice aa s.fl.length ca, .slice ab s.qu.length cb, .int .i64 s.next] 24)).alloc (.cells #[.int .i64 id] 3))
    simp only [World.size_alloc] at this
    exact this
  have HB0 := hide ((((Below.refl w.heap.size w).alloc (Nat.le_refl _) (.cells #[.string s.client, .bool s.on, .bool s.clean, .slice aa s.fl.length ca, .slice ab s.qu.length cb, .int .i64 s.next] 24)).alloc (by simp) (.cells #[.int .i64 id] 3)).alloc (by simp; omega) (.cells #[.string ⟨#[]⟩, .bool false, .bool false, .slice none 0 0, .slice none 0 0, .int .i64 0] 24))
  clear hs hm
  generalize landR s id = R at *
  generalize chkS s = E at *
  simp only [seV]
  go_enter Tryd.func6, Tryd.ntmps6
  go_upto_region 1 with fail
  revert D0 N0 Z0 HB0
  generalize ((w.alloc (.cells #[.string s.client, .bool s.on, .bool s.clean, .slice aa s.fl.length ca, .slice ab s.qu.length cb, .int .i64 s.next] 24)).alloc (.cells #[.int .i64 id] 3)).alloc (.cells #[.string ⟨#[]⟩, .bool false, .bool false, .slice none 0 0, .slice none 0 0, .int .i64 0] 24) = W0
  intro D0 N0 Z0 HB0
  have x1 := D0.out.cell
  go_wp2_with fail
  refine (CS.out _ HB0.out N0.out).mono ?_
  rintro e w1 ⟨a1, c1, a2, c2, ao, cs, rfl, ho, hb⟩
  have hzl := Z0.out.lt
  have Z1 := hide (Z0.out.after hb)
  have HB1 := hide (below_step HB0.out hb)
  have HO := hide (((out_six ho hzl (.string R.1.client) (.bool R.1.on) (.bool R.1.clean) (.slice a1 R.1.fl.length c1) (.slice a2 R.1.qu.length c2) (.int .i64 R.1.next))).mono HB0.out.size)
  have HB := hide (ssix_below HB1.out (show w.heap.size ≤ w.heap.size + 2 by omega) (.string R.1.client) (.bool R.1.on) (.bool R.1.clean) (.slice a1 R.1.fl.length c1) (.slice a2 R.1.qu.length c2) (.int .i64 R.1.next))
  clear ho hb x1 D0 N0 Z0 HB0 HB1 CS hzl
  have z1 := Z1.out.cell
  have z2 := Z1.out.frozen
  simp only [zeroSe] at z1
  go_wp2
  exact bodyPost_ret (v := .tuple #[.agg #[.string R.1.client, .bool R.1.on, .bool R.1.clean, .slice a1 R.1.fl.length c1, .slice a2 R.1.qu.length c2, .int .i64 R.1.next], .slice ao R.2.length cs, .int .i64 E]) (by simp [results, Tryd.results6, go_sem, World.cell?_setCell_same, z1]) rfl ⟨a1, c1, a2, c2, ao, cs, rfl, HO.out, HB.out⟩
end Go.Proofs.YtnhcecgmcmcioaaDoor
