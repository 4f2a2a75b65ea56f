/-
  session.sending with Landed's act.
-/
import Derived.Test.YtnhcecgmcmcioaaDoorSesSendW
namespace Go.Proofs.YtnhcecgmcmcioaaDoor
open Go.RowKit Go.PlainAid

set_option maxHeartbeats 8000000 in
set_option maxRecDepth 100000 in
theorem sendingLand_any (s : Se) (R : Se × List Pk) (aa ab : Option Addr) (ca cb : Nat) (w : World) (hs : SeIn w s aa ab) (hca : s.fl.length ≤ ca) (c : Nat) (hm : Max w) (K : World → Prop) (hK : ∀ V, Below w.heap.size w V → K V) (asked : Int) (ha : chkS s = 0 → asked = 0 → Acts 24 #[.pointer (some ⟨c, 0, none⟩)] K s R) :
    Calls Tryd.prog 18 #[seV s aa ca ab cb, .int .i64 asked, .func (.func 24) #[] #[.pointer (some ⟨c, 0, none⟩)]] w (SendPost s asked R w) := by
  have HS := hide hs
  have HM := hide hm
  have HA := hide ha
  have HKK := hide hK
  have CC := hide (fun V (h : Below w.heap.size w V) => scheck_any s aa ab ca cb V (hs.below h) hca (hm.below h))
  have D0 : Hid (SAt w.heap.size s (.slice aa s.fl.length ca) (.slice ab s.qu.length cb) ((w.alloc (.cells #[.string s.client, .bool s.on, .bool s.clean, .slice aa s.fl.length ca, .slice ab s.qu.length cb, .int .i64 s.next] 24)).alloc (.cells #[.string ⟨#[]⟩, .bool false, .bool false, .slice none 0 0, .slice none 0 0, .int .i64 0] 24))) := by
    show _ = _; rw [Below.heap_alloc _ _ _ (by simp)]; exact sat_new s _ _ w
  have Z0 : Hid (SAt (w.heap.size + 1) zeroSe (.slice none 0 0) (.slice none 0 0) ((w.alloc (.cells #[.string s.client, .bool s.on, .bool s.clean, .slice aa s.fl.length ca, .slice ab s.qu.length cb, .int .i64 s.next] 24)).alloc (.cells #[.string ⟨#[]⟩, .bool false, .bool false, .slice none 0 0, .slice none 0 0, .int .i64 0] 24))) := by
    have := sat_new zeroSe (.slice none 0 0) (.slice none 0 0) (w.alloc (.cells #[.string s.client, .bool s.on, .bool s.clean, .slice aa s.fl.length ca, .slice ab s.qu.length cb, .int .i64 s.next] 24))
    simp only [World.size_alloc] at this
    exact this
  have HB0 := hide (((Below.refl w.heap.size w).alloc (Nat.le_refl _) (.cells #[.string s.client, .bool s.on, .bool s.clean, .slice aa s.fl.length ca, .slice ab s.qu.length cb, .int .i64 s.next] 24)).alloc (by simp) (.cells #[.string ⟨#[]⟩, .bool false, .bool false, .slice none 0 0, .slice none 0 0, .int .i64 0] 24))
  clear hs hm ha hK
  simp only [seV] at CC ⊢
  go_enter Tryd.func18, Tryd.ntmps18
  go_upto_region 1 with fail
  revert D0 Z0 HB0
  generalize (w.alloc (.cells #[.string s.client, .bool s.on, .bool s.clean, .slice aa s.fl.length ca, .slice ab s.qu.length cb, .int .i64 s.next] 24)).alloc (.cells #[.string ⟨#[]⟩, .bool false, .bool false, .slice none 0 0, .slice none 0 0, .int .i64 0] 24) = W0
  intro D0 Z0 HB0
  have x1 := D0.out.cell
  go_wp2_with fail
  refine (CC.out _ HB0.out).mono ?_
  rintro e w1 ⟨rfl, hb⟩
  have D1 := hide (D0.out.after hb)
  have Z1 := hide (Z0.out.after hb)
  have HB1 := hide (below_step HB0.out hb)
  clear hb x1 D0 Z0 HB0 CC
  have x1 := D1.out.cell
  by_cases h0 : chkS s = 0
  · by_cases hE : asked = 0
    · have HAC := hide (HA.out h0 hE)
      subst hE
      obtain ⟨g1, g2, g3, g4, g5⟩ := chkS_small h0
      have CL := hide (fun V (h : Below w.heap.size w V) => clone_se s aa ab ca cb V (HS.out.below h) (by omega) ⟨by omega, by omega⟩ (fun f hf => by have := g4 f hf; omega))
      rw [h0]
      simp only [seV] at CL
      go_wp2_with fail
      refine (CL.out _ HB1.out).mono ?_
      rintro e w2 ⟨a1, c1, a2, c2, M, rfl, ho, hb⟩
      have D2 := hide (D1.out.after hb)
      have Z2 := hide (Z1.out.after hb)
      have HB2 := hide (below_step HB1.out hb)
      have hz1 := Z1.out.lt
      have HQ := hide (sq_new (N := w1.heap.size) ⟨kown_mono ho.fl (by omega), ho.lt, ho.qu, by have := ho.le; omega⟩ (Below.refl _ w2) hb.size)
      have C := hide (HAC.out _ _ _ _ _ _ _ _ _ (HKK.out _ (HB2.out.alloc (show w.heap.size ≤ w2.heap.size from HB2.out.size) _)) HQ.out)
      clear hb ho x1 D1 Z1 HB1 CL HA HAC HKK g4
      have hs12 : w.heap.size ≤ w1.heap.size := by omega
      generalize w1.heap.size = N1 at *
      have x1 := HQ.out.box.cell
      go_wp2_with fail
      refine C.out.mono ?_
      rintro e w3 ⟨rfl, a3, c3, a4, c4, ao, cs, hsd⟩
      have Z3 : Hid (SAt (w.heap.size + 1) zeroSe (.slice none 0 0) (.slice none 0 0) w3) := by
        have := Z2.out
        unfold SAt at *
        rw [hsd.bel.block _ hz1]; exact this
      have HB3 := hide (HB2.out.trans (hsd.bel.mono hs12))
      have HSD := hide hsd
      clear hsd C HQ x1 D2 Z2 HB2
      have x1 := HSD.out.box.cell
      have z1 := Z3.out.cell
      have z2 := Z3.out.frozen
      simp only [zeroSe] at z1
      go_upto_region 8 with fail
      have hB : w.heap.size + 1 < w2.heap.size := by have := HSD.out.le; omega
      generalize w2.heap.size = B at *
      generalize hZ : w.heap.size + 1 = Z at *
      have hne : B ≠ Z := by omega
      have HK : Hid (∀ (x y z u p q : Value) g, N1 ≤ g → ((((((w3.setCell ⟨Z, 0, none⟩ x).setCell ⟨Z, 1, none⟩ y).setCell ⟨Z, 2, none⟩ z).setCell ⟨Z, 3, none⟩ u).setCell ⟨Z, 4, none⟩ p).setCell ⟨Z, 5, none⟩ q).heap[g]? = w3.heap[g]?) := fun x y z u p q g hg => by
        have hgz : g ≠ Z := by omega
        rw [Below.heap_setCell _ _ _ _ hgz, Below.heap_setCell _ _ _ _ hgz, Below.heap_setCell _ _ _ _ hgz, Below.heap_setCell _ _ _ _ hgz, Below.heap_setCell _ _ _ _ hgz, Below.heap_setCell _ _ _ _ hgz]
      have x6 : ((((((w3.setCell ⟨Z, 0, none⟩ (.string R.1.client)).setCell ⟨Z, 1, none⟩ (.bool R.1.on)).setCell ⟨Z, 2, none⟩ (.bool R.1.clean)).setCell ⟨Z, 3, none⟩ (.slice a3 R.1.fl.length c3)).setCell ⟨Z, 4, none⟩ (.slice a4 R.1.qu.length c4)).setCell ⟨Z, 5, none⟩ (.int .i64 R.1.next)).cell? ⟨B, 6, none⟩ = some (.slice ao R.2.length cs) := by
        rw [World.cell?_of_block (w := w3) (a := ⟨B, 6, none⟩) (HK.out _ _ _ _ _ _ B (by have := HSD.out.le; omega))]
        exact HSD.out.box.cell 6
      go_region_law fail
      all_goals
        have HBB := hide (ssix_below HB3.out (show w.heap.size ≤ Z by omega) (.string R.1.client) (.bool R.1.on) (.bool R.1.clean) (.slice a3 R.1.fl.length c3) (.slice a4 R.1.qu.length c4) (.int .i64 R.1.next)).drew
        have HSE := hide (HSD.out.seen (HK.out (.string R.1.client) (.bool R.1.on) (.bool R.1.clean) (.slice a3 R.1.fl.length c3) (.slice a4 R.1.qu.length c4) (.int .i64 R.1.next)))
        have HZF : Hid (((((((w3.setCell ⟨Z, 0, none⟩ (.string R.1.client)).setCell ⟨Z, 1, none⟩ (.bool R.1.on)).setCell ⟨Z, 2, none⟩ (.bool R.1.clean)).setCell ⟨Z, 3, none⟩ (.slice a3 R.1.fl.length c3)).setCell ⟨Z, 4, none⟩ (.slice a4 R.1.qu.length c4)).setCell ⟨Z, 5, none⟩ (.int .i64 R.1.next)).heap[Z]? = some (.cells #[.string R.1.client, .bool R.1.on, .bool R.1.clean, .slice a3 R.1.fl.length c3, .slice a4 R.1.qu.length c4, .int .i64 R.1.next] 24 (0, 0))) := by
          have := Z3.out; unfold SAt at this; refine hide ?_; simp [World.setCell, Array.getElem?_modify, this]
        clear HSD HK x6 HB3 x1 HS HM z1 z2 Z3
        go_simp
        go_wp2
        revert HBB HSE HZF
        generalize (((((w3.setCell ⟨Z, 0, none⟩ (.string R.1.client)).setCell ⟨Z, 1, none⟩ (.bool R.1.on)).setCell ⟨Z, 2, none⟩ (.bool R.1.clean)).setCell ⟨Z, 3, none⟩ (.slice a3 R.1.fl.length c3)).setCell ⟨Z, 4, none⟩ (.slice a4 R.1.qu.length c4)).setCell ⟨Z, 5, none⟩ (.int .i64 R.1.next) = WF
        intro HBB HSE HZF
        have HOU : Hid (OutS w.heap.size R a3 c3 a4 c4 ao cs WF.drew) := (HSE.out.mono hs12).kept (fun _ _ => rfl)
        have zf : ∀ o, WF.drew.cell? ⟨Z, o, none⟩ = (#[.string R.1.client, .bool R.1.on, .bool R.1.clean, .slice a3 R.1.fl.length c3, .slice a4 R.1.qu.length c4, .int .i64 R.1.next] : Array Value)[o]? := fun o => Lib.cell_of_heap (w := WF.drew) HZF.out o
        have HSP : Hid (SendPost s 0 R w (.returned (.tuple #[seV R.1 a3 c3 a4 c4, .slice ao R.2.length cs, .int .i64 0])) WF.drew) := ⟨HBB.out, by rw [if_neg (by simp [h0]), if_neg (by simp)]; exact ⟨a3, c3, a4, c4, ao, cs, rfl, HOU.out⟩⟩
        clear HBB HSE HZF HOU
        exact bodyPost_ret (v := .tuple #[seV R.1 a3 c3 a4 c4, .slice ao R.2.length cs, .int .i64 0]) (by simp [results, Tryd.results18, go_sem, seV, zf]) rfl HSP.out
    · have HP := hide h0
      have HQ := hide hE
      have hE' : (asked != 0) = true := by simp [hE]
      have HB := hide (ssix_below HB1.out (show w.heap.size ≤ w.heap.size + 1 by omega) (.string ⟨#[]⟩) (.bool false) (.bool false) (.slice none 0 0) (.slice none 0 0) (.int .i64 0))
      clear HA D1 HS HM HKK hE
      have z1 := Z1.out.cell
      have z2 := Z1.out.frozen
      simp only [zeroSe] at z1
      rw [h0]
      go_wp2
      exact bodyPost_ret (v := .tuple #[seV zeroSe none 0 none 0, .slice none 0 0, .int .i64 asked]) (by simp [results, Tryd.results18, go_sem, seV, zeroSe, World.cell?_setCell_same, z1]) rfl ⟨HB.out, by rw [if_neg (by simp [HP.out]), if_pos HQ.out]⟩
  · have HP := hide h0
    have HB := hide (ssix_below HB1.out (show w.heap.size ≤ w.heap.size + 1 by omega) (.string ⟨#[]⟩) (.bool false) (.bool false) (.slice none 0 0) (.slice none 0 0) (.int .i64 0))
    clear HA D1 HS HM HKK
    have z1 := Z1.out.cell
    have z2 := Z1.out.frozen
    simp only [zeroSe] at z1
    go_wp2
    exact bodyPost_ret (v := .tuple #[seV zeroSe none 0 none 0, .slice none 0 0, .int .i64 (chkS s)]) (by simp [results, Tryd.results18, go_sem, seV, zeroSe, World.cell?_setCell_same, z1]) rfl ⟨HB.out, by rw [if_pos h0]⟩
end Go.Proofs.YtnhcecgmcmcioaaDoor
