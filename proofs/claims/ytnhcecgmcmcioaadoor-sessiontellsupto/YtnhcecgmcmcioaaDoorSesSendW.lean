/-
  session.sending: what it answers, by an act.
-/
import Derived.Test.YtnhcecgmcmcioaaDoorSesSending
namespace Go.Proofs.YtnhcecgmcmcioaaDoor
open Go.RowKit Go.PlainAid

/-- what act leaves of a sender of s, where K holds -/
def Acts (n : Nat) (caps : Array Value) (K : World → Prop) (s : Se) (R : Se × List Pk) : Prop := ∀ (N b M : Nat) (a1 : Option Addr) (c1 : Nat) (a2 : Option Addr) (c2 : Nat) (w W : World), K W → Sq N b s (.slice a1 s.fl.length c1) (.slice a2 s.qu.length c2) (.slice none 0 0) [] M w W →
  Calls Tryd.prog n (#[.pointer (some ⟨b, 0, none⟩)] ++ caps) W fun e W' => e = .returned (.tuple #[]) ∧ ∃ a1 c1 a2 c2 ao cs, Sd N b R.1 (.slice a1 R.1.fl.length c1) a2 c2 (.slice ao R.2.length cs) R.2 w W'

/-- flights that lie in a block of theirs, from N on -/
def FlsT (N : Nat) (W : World) (ao : Option Addr) (l : List Fl) : Prop :=
  l = [] ∨ ∃ g o cur, ao = some ⟨g, o, none⟩ ∧ N ≤ g ∧ W.heap[g]? = some (.cells cur 46 (0, 0)) ∧ ∀ i (h : i < l.length), W.cell? ⟨g, o + i * 3, none⟩ = some (.int .i64 l[i].id) ∧ W.cell? ⟨g, o + i * 3 + 1, none⟩ = some (.string l[i].topic) ∧ W.cell? ⟨g, o + i * 3 + 2, none⟩ = some (.string l[i].load)
theorem FlsT.inn {N : Nat} {W : World} {ao : Option Addr} {l : List Fl} (h : FlsT N W ao l) : FlsIn W ao l := by
  rcases h with h | ⟨g, o, cur, ha, _, hg, hc⟩
  · exact .inl h
  · exact .inr ⟨g, o, ha, (Array.getElem?_eq_some_iff.1 hg).1, hc⟩
theorem FlsT.keep {N : Nat} {W W' : World} {ao : Option Addr} {l : List Fl} (h : FlsT N W ao l) (hk : ∀ g cur, N ≤ g → W.heap[g]? = some (.cells cur 46 (0, 0)) → W'.heap[g]? = W.heap[g]?) : FlsT N W' ao l := by
  rcases h with h | ⟨g, o, cur, ha, hN, hg, hc⟩
  · exact .inl h
  · have k1 := hk g cur hN hg
    refine .inr ⟨g, o, cur, ha, hN, by rw [k1]; exact hg, fun i hi => ?_⟩
    rw [World.cell?_of_block (w := W) (a := ⟨g, _, none⟩) k1, World.cell?_of_block (w := W) (a := ⟨g, _, none⟩) k1, World.cell?_of_block (w := W) (a := ⟨g, _, none⟩) k1]
    exact hc i hi
theorem FlsT.mono {N M : Nat} {W : World} {ao : Option Addr} {l : List Fl} (h : FlsT N W ao l) (hM : M ≤ N) : FlsT M W ao l := by
  rcases h with h | ⟨g, o, cur, ha, hN, rest⟩
  · exact .inl h
  · exact .inr ⟨g, o, cur, ha, by omega, rest⟩
theorem FlsT.below {N : Nat} {W W' : World} {ao : Option Addr} {l : List Fl} (h : FlsT N W ao l) (hb : Below W.heap.size W W') : FlsT N W' ao l :=
  h.keep fun g _ _ hg => hb.block g (Array.getElem?_eq_some_iff.1 hg).1

/-- a session and packets that were answered: they lie from N on -/
structure OutS (N : Nat) (R : Se × List Pk) (a1 : Option Addr) (c1 : Nat) (a2 : Option Addr) (c2 : Nat) (ao : Option Addr) (cs : Nat) (W : World) : Prop where
  fl : FlsT N W a1 R.1.fl
  qu : FlsT N W a2 R.1.qu
  cf : R.1.fl.length ≤ c1
  cq : R.1.qu.length ≤ c2
  sent : W.ownsRow N 57 14 (.slice ao R.2.length cs) R.2.length (spCells R.2)
theorem OutS.kept {N : Nat} {R : Se × List Pk} {a1 a2 ao : Option Addr} {c1 c2 cs : Nat} {W W' : World} (h : OutS N R a1 c1 a2 c2 ao cs W) (hk : ∀ g, N ≤ g → W'.heap[g]? = W.heap[g]?) : OutS N R a1 c1 a2 c2 ao cs W' :=
  ⟨h.fl.keep fun g _ hN _ => hk g hN, h.qu.keep fun g _ hN _ => hk g hN, h.cf, h.cq, kown_kept h.sent fun g hg => hk g (kown_at h.sent hg).1⟩
theorem OutS.mono {N M : Nat} {R : Se × List Pk} {a1 a2 ao : Option Addr} {c1 c2 cs : Nat} {W : World} (h : OutS N R a1 c1 a2 c2 ao cs W) (hM : M ≤ N) : OutS M R a1 c1 a2 c2 ao cs W :=
  ⟨h.fl.mono hM, h.qu.mono hM, h.cf, h.cq, kown_mono h.sent hM⟩
theorem OutS.inn {N : Nat} {R : Se × List Pk} {a1 a2 ao : Option Addr} {c1 c2 cs : Nat} {W : World} (h : OutS N R a1 c1 a2 c2 ao cs W) : SeIn W R.1 a1 a2 := ⟨h.fl.inn, h.qu.inn⟩
theorem OutS.below {N : Nat} {R : Se × List Pk} {a1 a2 ao : Option Addr} {c1 c2 cs : Nat} {W W' : World} (h : OutS N R a1 c1 a2 c2 ao cs W) (hb : Below W.heap.size W W') : OutS N R a1 c1 a2 c2 ao cs W' :=
  ⟨h.fl.below hb, h.qu.below hb, h.cf, h.cq, kown_below h.sent hb⟩

/-- what sending answers -/
def SendPost (s : Se) (asked : Int) (R : Se × List Pk) (w : World) (e : Ending) (w' : World) : Prop :=
  Below w.heap.size w w' ∧ (if chkS s ≠ 0 then e = .returned (.tuple #[seV zeroSe none 0 none 0, .slice none 0 0, .int .i64 (chkS s)]) else if asked ≠ 0 then e = .returned (.tuple #[seV zeroSe none 0 none 0, .slice none 0 0, .int .i64 asked]) else
    ∃ a1 c1 a2 c2 ao cs, e = .returned (.tuple #[seV R.1 a1 c1 a2 c2, .slice ao R.2.length cs, .int .i64 0]) ∧ OutS w.heap.size R a1 c1 a2 c2 ao cs w')

/-- what a sender is, seen when a lower block is told -/
theorem Sd.seen {N b : Nat} {s : Se} {aa ab ao : Option Addr} {ca cb cs : Nat} {L : List Pk} {w W W' : World} (h : Sd N b s (.slice aa s.fl.length ca) ab cb (.slice ao L.length cs) L w W) (hk : ∀ g, N ≤ g → W'.heap[g]? = W.heap[g]?) : OutS N (s, L) aa ca ab cb ao cs W' := by
  refine ⟨FlsT.keep ?_ (fun g _ hN _ => hk g hN), FlsT.keep ?_ (fun g _ hN _ => hk g hN), ?_, h.ge, kown_kept h.sent fun g hg => hk g (kown_at h.sent hg).1⟩
  · rcases own_fls h.fl rfl with h0 | ⟨g, o, ha, hg, hc⟩
    · exact .inl h0
    · obtain ⟨h1, cur, h2⟩ := kown_at h.fl (g := g) (by rw [ha]; rfl)
      exact .inr ⟨g, o, cur, ha, h1, h2, hc⟩
  · rcases h.qu with h0 | ⟨g, o, cur, ha, hN, _, hg, hc⟩
    · exact .inl h0
    · exact .inr ⟨g, o, cur, ha, hN, hg, hc⟩
  · rcases h.fl.2 with ⟨e, h0⟩ | ⟨g, cap, cur, hv, _, _, hc, _⟩
    · show s.fl.length ≤ ca; omega
    · injection hv with _ _ e
      show s.fl.length ≤ ca; omega

set_option maxHeartbeats 8000000 in
set_option maxRecDepth 100000 in
theorem sendingCome_any (s : Se) (R : Se × List Pk) (aa ab : Option Addr) (ca cb : Nat) (w : World) (hs : SeIn w s aa ab) (hca : s.fl.length ≤ ca) (hm : Max w) (K : World → Prop) (hK : ∀ V, Below w.heap.size w V → K V) (asked : Int) (ha : chkS s = 0 → asked = 0 → Acts 27 #[] K s R) :
    Calls Tryd.prog 18 #[seV s aa ca ab cb, .int .i64 asked, .func (.func 27) #[] #[]] w (SendPost s asked R w) := by
  have HS := hide hs
  have HM := hide hm
  have HA := hide ha
  have HKK := hide hK
  have CC := hide (fun V (h : Below w.heap.size w V) => scheck_any s aa ab ca cb V (hs.below h) hca (hm.below h))
  have D0 : Hid (SAt w.heap.size s (.slice aa s.fl.length ca) (.slice ab s.qu.length cb) ((w.alloc (.cells #[.string s.client, .bool s.on, .bool s.clean, .slice aa s.fl.length ca, .slice ab s.qu.length cb, .int .i64 s.next] 24)).alloc (.cells #[.string ⟨#[]⟩, .bool false, .bool false, .slice none 0 0, .slice none 0 0, .int .i64 0] 24))) := by
    show _ = _; rw [Below.heap_alloc _ _ _ (by simp)]; exact sat_new s _ _ w
  have Z0 : Hid (SAt (w.heap.size + 1) zeroSe (.slice none 0 0) (.slice none 0 0) ((w.alloc (.cells #[.string s.client, .bool s.on, .bool s.clean, .slice aa s.fl.length ca, .slice ab s.qu.length cb, .int .i64 s.next] 24)).alloc (.cells #[.string ⟨#[]⟩, .bool false, .bool false, .slice none 0 0, .slice none 0 0, .int .i64 0] 24))) := by
    have := sat_new zeroSe (.slice none 0 0) (.slice none 0 0) (w.alloc (.cells #[.string s.client, .bool s.on, .bool s.clean, .slice aa s.fl.length ca, .slice ab s.qu.length cb, .int .i64 s.next] 24))
    simp only [World.size_alloc] at this
    exact this
  have HB0 := hide (((Below.refl w.heap.size w).alloc (Nat.le_refl _) (.cells #[.string s.client, .bool s.on, .bool s.clean, .slice aa s.fl.length ca, .slice ab s.qu.length cb, .int .i64 s.next] 24)).alloc (by simp) (.cells #[.string ⟨#[]⟩, .bool false, .bool false, .slice none 0 0, .slice none 0 0, .int .i64 0] 24))
  clear hs hm ha hK
  simp only [seV] at CC ⊢
  go_enter Tryd.func18, Tryd.ntmps18
  go_upto_region 1 with fail
  revert D0 Z0 HB0
  generalize (w.alloc (.cells #[.string s.client, .bool s.on, .bool s.clean, .slice aa s.fl.length ca, .slice ab s.qu.length cb, .int .i64 s.next] 24)).alloc (.cells #[.string ⟨#[]⟩, .bool false, .bool false, .slice none 0 0, .slice none 0 0, .int .i64 0] 24) = W0
  intro D0 Z0 HB0
  have x1 := D0.out.cell
  go_wp2_with fail
  refine (CC.out _ HB0.out).mono ?_
  rintro e w1 ⟨rfl, hb⟩
  have D1 := hide (D0.out.after hb)
  have Z1 := hide (Z0.out.after hb)
  have HB1 := hide (below_step HB0.out hb)
  clear hb x1 D0 Z0 HB0 CC
  have x1 := D1.out.cell
  by_cases h0 : chkS s = 0
  · by_cases hE : asked = 0
    · have HAC := hide (HA.out h0 hE)
      subst hE
      obtain ⟨g1, g2, g3, g4, g5⟩ := chkS_small h0
      have CL := hide (fun V (h : Below w.heap.size w V) => clone_se s aa ab ca cb V (HS.out.below h) (by omega) ⟨by omega, by omega⟩ (fun f hf => by have := g4 f hf; omega))
      rw [h0]
      simp only [seV] at CL
      go_wp2_with fail
      refine (CL.out _ HB1.out).mono ?_
      rintro e w2 ⟨a1, c1, a2, c2, M, rfl, ho, hb⟩
      have D2 := hide (D1.out.after hb)
      have Z2 := hide (Z1.out.after hb)
      have HB2 := hide (below_step HB1.out hb)
      have hz1 := Z1.out.lt
      have HQ := hide (sq_new (N := w1.heap.size) ⟨kown_mono ho.fl (by omega), ho.lt, ho.qu, by have := ho.le; omega⟩ (Below.refl _ w2) hb.size)
      have C := hide (HAC.out _ _ _ _ _ _ _ _ _ (HKK.out _ (HB2.out.alloc (show w.heap.size ≤ w2.heap.size from HB2.out.size) _)) HQ.out)
      clear hb ho x1 D1 Z1 HB1 CL HA HAC HKK g4
      have hs12 : w.heap.size ≤ w1.heap.size := by omega
      generalize w1.heap.size = N1 at *
      have x1 := HQ.out.box.cell
      go_wp2_with fail
      refine C.out.mono ?_
      rintro e w3 ⟨rfl, a3, c3, a4, c4, ao, cs, hsd⟩
      have Z3 : Hid (SAt (w.heap.size + 1) zeroSe (.slice none 0 0) (.slice none 0 0) w3) := by
        have := Z2.out
        unfold SAt at *
        rw [hsd.bel.block _ hz1]; exact this
      have HB3 := hide (HB2.out.trans (hsd.bel.mono hs12))
      have HSD := hide hsd
      clear hsd C HQ x1 D2 Z2 HB2
      have x1 := HSD.out.box.cell
      have z1 := Z3.out.cell
      have z2 := Z3.out.frozen
      simp only [zeroSe] at z1
      go_upto_region 8 with fail
      have hB : w.heap.size + 1 < w2.heap.size := by have := HSD.out.le; omega
      generalize w2.heap.size = B at *
      generalize hZ : w.heap.size + 1 = Z at *
      have hne : B ≠ Z := by omega
      have HK : Hid (∀ (x y z u p q : Value) g, N1 ≤ g → ((((((w3.setCell ⟨Z, 0, none⟩ x).setCell ⟨Z, 1, none⟩ y).setCell ⟨Z, 2, none⟩ z).setCell ⟨Z, 3, none⟩ u).setCell ⟨Z, 4, none⟩ p).setCell ⟨Z, 5, none⟩ q).heap[g]? = w3.heap[g]?) := fun x y z u p q g hg => by
        have hgz : g ≠ Z := by omega
        rw [Below.heap_setCell _ _ _ _ hgz, Below.heap_setCell _ _ _ _ hgz, Below.heap_setCell _ _ _ _ hgz, Below.heap_setCell _ _ _ _ hgz, Below.heap_setCell _ _ _ _ hgz, Below.heap_setCell _ _ _ _ hgz]
      have x6 : ((((((w3.setCell ⟨Z, 0, none⟩ (.string R.1.client)).setCell ⟨Z, 1, none⟩ (.bool R.1.on)).setCell ⟨Z, 2, none⟩ (.bool R.1.clean)).setCell ⟨Z, 3, none⟩ (.slice a3 R.1.fl.length c3)).setCell ⟨Z, 4, none⟩ (.slice a4 R.1.qu.length c4)).setCell ⟨Z, 5, none⟩ (.int .i64 R.1.next)).cell? ⟨B, 6, none⟩ = some (.slice ao R.2.length cs) := by
        rw [World.cell?_of_block (w := w3) (a := ⟨B, 6, none⟩) (HK.out _ _ _ _ _ _ B (by have := HSD.out.le; omega))]
        exact HSD.out.box.cell 6
      go_region_law fail
      all_goals
        have HBB := hide (ssix_below HB3.out (show w.heap.size ≤ Z by omega) (.string R.1.client) (.bool R.1.on) (.bool R.1.clean) (.slice a3 R.1.fl.length c3) (.slice a4 R.1.qu.length c4) (.int .i64 R.1.next)).drew
        have HSE := hide (HSD.out.seen (HK.out (.string R.1.client) (.bool R.1.on) (.bool R.1.clean) (.slice a3 R.1.fl.length c3) (.slice a4 R.1.qu.length c4) (.int .i64 R.1.next)))
        have HZF : Hid (((((((w3.setCell ⟨Z, 0, none⟩ (.string R.1.client)).setCell ⟨Z, 1, none⟩ (.bool R.1.on)).setCell ⟨Z, 2, none⟩ (.bool R.1.clean)).setCell ⟨Z, 3, none⟩ (.slice a3 R.1.fl.length c3)).setCell ⟨Z, 4, none⟩ (.slice a4 R.1.qu.length c4)).setCell ⟨Z, 5, none⟩ (.int .i64 R.1.next)).heap[Z]? = some (.cells #[.string R.1.client, .bool R.1.on, .bool R.1.clean, .slice a3 R.1.fl.length c3, .slice a4 R.1.qu.length c4, .int .i64 R.1.next] 24 (0, 0))) := by
          have := Z3.out; unfold SAt at this; refine hide ?_; simp [World.setCell, Array.getElem?_modify, this]
        clear HSD HK x6 HB3 x1 HS HM z1 z2 Z3
        go_simp
        go_wp2
        revert HBB HSE HZF
        generalize (((((w3.setCell ⟨Z, 0, none⟩ (.string R.1.client)).setCell ⟨Z, 1, none⟩ (.bool R.1.on)).setCell ⟨Z, 2, none⟩ (.bool R.1.clean)).setCell ⟨Z, 3, none⟩ (.slice a3 R.1.fl.length c3)).setCell ⟨Z, 4, none⟩ (.slice a4 R.1.qu.length c4)).setCell ⟨Z, 5, none⟩ (.int .i64 R.1.next) = WF
        intro HBB HSE HZF
        have HOU : Hid (OutS w.heap.size R a3 c3 a4 c4 ao cs WF.drew) := (HSE.out.mono hs12).kept (fun _ _ => rfl)
        have zf : ∀ o, WF.drew.cell? ⟨Z, o, none⟩ = (#[.string R.1.client, .bool R.1.on, .bool R.1.clean, .slice a3 R.1.fl.length c3, .slice a4 R.1.qu.length c4, .int .i64 R.1.next] : Array Value)[o]? := fun o => Lib.cell_of_heap (w := WF.drew) HZF.out o
        have HSP : Hid (SendPost s 0 R w (.returned (.tuple #[seV R.1 a3 c3 a4 c4, .slice ao R.2.length cs, .int .i64 0])) WF.drew) := ⟨HBB.out, by rw [if_neg (by simp [h0]), if_neg (by simp)]; exact ⟨a3, c3, a4, c4, ao, cs, rfl, HOU.out⟩⟩
        clear HBB HSE HZF HOU
        exact bodyPost_ret (v := .tuple #[seV R.1 a3 c3 a4 c4, .slice ao R.2.length cs, .int .i64 0]) (by simp [results, Tryd.results18, go_sem, seV, zf]) rfl HSP.out
    · have HP := hide h0
      have HQ := hide hE
      have hE' : (asked != 0) = true := by simp [hE]
      have HB := hide (ssix_below HB1.out (show w.heap.size ≤ w.heap.size + 1 by omega) (.string ⟨#[]⟩) (.bool false) (.bool false) (.slice none 0 0) (.slice none 0 0) (.int .i64 0))
      clear HA D1 HS HM HKK hE
      have z1 := Z1.out.cell
      have z2 := Z1.out.frozen
      simp only [zeroSe] at z1
      rw [h0]
      go_wp2
      exact bodyPost_ret (v := .tuple #[seV zeroSe none 0 none 0, .slice none 0 0, .int .i64 asked]) (by simp [results, Tryd.results18, go_sem, seV, zeroSe, World.cell?_setCell_same, z1]) rfl ⟨HB.out, by rw [if_neg (by simp [HP.out]), if_pos HQ.out]⟩
  · have HP := hide h0
    have HB := hide (ssix_below HB1.out (show w.heap.size ≤ w.heap.size + 1 by omega) (.string ⟨#[]⟩) (.bool false) (.bool false) (.slice none 0 0) (.slice none 0 0) (.int .i64 0))
    clear HA D1 HS HM HKK
    have z1 := Z1.out.cell
    have z2 := Z1.out.frozen
    simp only [zeroSe] at z1
    go_wp2
    exact bodyPost_ret (v := .tuple #[seV zeroSe none 0 none 0, .slice none 0 0, .int .i64 (chkS s)]) (by simp [results, Tryd.results18, go_sem, seV, zeroSe, World.cell?_setCell_same, z1]) rfl ⟨HB.out, by rw [if_pos h0]⟩
end Go.Proofs.YtnhcecgmcmcioaaDoor
