/-
  dragomanref.ComeOf: what it answers of a right session.
-/
import Derived.Test.YtnhcecgmcmcioaaDoorSesRefActs
namespace Go.Proofs.YtnhcecgmcmcioaaDoor
open Go.RowKit Go.PlainAid

/-- a row's own cells, as what is appended -/
theorem own_row_news {W : World} {M : Nat} {e : TypeId} {k : Nat} {ao : Option Addr} {n c : Nat} {xs : List Value} (h : W.ownsRow M e k (.slice ao n c) n xs) : n ≠ 0 → ∃ A, ao = some A ∧ ∀ j u, xs[j]? = some u → W.cell? (A.add j) = some u := fun hn => by
  rcases row_form h with ⟨_, h0, _⟩ | ⟨g, rfl, _⟩
  · exact absurd h0 hn
  · refine ⟨_, rfl, fun j u hu => ?_⟩
    have hj : j < n * k := by have := (List.getElem?_eq_some_iff.1 hu).1; rw [h.1] at this; exact this
    rw [add_at, Nat.zero_add, (kown_there h).1 j hj]
    exact hu
theorem spCells_one' (l : List Pk) : ∀ u ∈ spCells l, u.oneCell' = true := by
  intro u hu
  simp only [spCells, List.mem_flatMap] at hu
  obtain ⟨p, _, hu⟩ := hu
  exact spC_cell p u hu

set_option maxHeartbeats 8000000 in
set_option maxRecDepth 100000 in
theorem comeOf_any (N : Nat) (s : Se) (aa ab : Option Addr) (ca cb : Nat) (w : World) (h1 : FlsB N w aa s.fl) (h2 : FlsB N w ab s.qu) (hq : s.qu.length ≤ cb) (hN : N ≤ w.heap.size) (hl : s.fl.length ≤ 3) (hn : 1 ≤ s.next ∧ s.next ≤ 65535) (hqn : s.qu.length ≤ 1048576) (hR2 : (flyS 3 { s with on := true } []).2.length ≤ 3) :
    Calls Tryd.prog 13 #[seV s aa ca ab cb] w (FPost N (flyS 3 { s with on := true } (s.fl.map (flP · true))) w) := by
  have HI0 := hide (ry_new s aa ca ab cb N w h1 h2 hq hN)
  have CF : Hid (∀ V, N ≤ V.heap.size → FlsB N V aa s.fl → FlsB N V ab s.qu → Calls Tryd.prog 35 #[.agg #[.string s.client, .bool true, .bool s.clean, .slice aa s.fl.length ca, .slice ab s.qu.length cb, .int .i64 s.next]] V (FPost N (flyS 3 { s with on := true } []) V)) := fun V hV hx hy => flyOf_any N { s with on := true } aa ab ca cb V hx hy hq hV hl hn hqn
  rw [flyS_more]
  generalize flyS 3 { s with on := true } [] = R at *
  clear h1 h2 hq hqn
  obtain ⟨cl, on, clean, fl, qu, nx⟩ := s
  simp only [seV] at HI0 CF hl ⊢
  go_enter Tryd.func13, Tryd.ntmps13
  go_upto_region 1 with fail
  revert HI0
  generalize (w.alloc (.cells #[.string cl, .bool on, .bool clean, .slice aa fl.length ca, .slice ab qu.length cb, .int .i64 nx] 24)).alloc (.cells #[.string ⟨#[]⟩, .bool false, .bool false, .slice none 0 0, .slice none 0 0, .int .i64 0] 24) = W0
  intro HI0
  have x1 : W0.cell? ⟨w.heap.size, 1, none⟩ = some (.bool on) := HI0.out.box.cell 1
  have f1 := HI0.out.box.frozen 1
  go_upto_region 2 with fail
  have HS1 := hide (HI0.out.putOn true)
  simp only at HS1
  clear HI0 x1 f1
  revert HS1
  generalize W0.setCell ⟨w.heap.size, 1, none⟩ (.bool true) = W1
  intro HS1
  go_wp2
  go_loopw [4, 5] (fun x i wr => ∃ (k : Nat) (av : Option Addr) (cv : Nat), k ≤ fl.length ∧ i = .int .i64 k ∧ x = .slice av ((fl.take k).map (flP · true)).length cv ∧ Hid (Ry N w.heap.size (w.heap.size + 1) ⟨cl, true, clean, fl, qu, nx⟩ aa ca ab cb av cv ((fl.take k).map (flP · true)) w wr)) (fun _ i _ => fl.length - (intOf i).toNat)
  case atStart => exact ⟨0, none, 0, by omega, rfl, by simp, HS1.out⟩
  case round =>
    obtain ⟨k, av, cv, hk, rfl, rfl, HS⟩ := hrel
    clear HS1
    have x3 : wr.cell? ⟨w.heap.size, 3, none⟩ = some (.slice aa fl.length ca) := HS.out.box.cell 3
    by_cases hlt : k < fl.length
    · obtain ⟨fb, fo, rfl, hfb, hfc⟩ := HS.out.fl.here hlt
      obtain ⟨k1, k2, k3⟩ := hfc k hlt
      have HSN : Hid ((fl.take (k + 1)).map (flP · true) = (fl.take k).map (flP · true) ++ [flP fl[k] true]) := by
        refine hide ?_; rw [List.take_succ_eq_append_getElem hlt, List.map_append]; rfl
      have HLN : Hid (((fl.take k).map (flP · true)).length ≤ 3) := by refine hide ?_; simp; omega
      have hlti : (k : Int) < fl.length := by omega
      clear hfc
      generalize (fl.take k).map (flP · true) = X at *
      obtain ⟨f, hf⟩ : ∃ f, fl[k] = f := ⟨_, rfl⟩
      rw [hf] at HSN k1 k2 k3
      clear hf
      obtain ⟨fi, ft, fp⟩ := f
      simp only at k1 k2 k3
      go_upto_region 7 with fail
      have HS2 := hide (HS.out.alloc (.cells #[.int .i64 fi, .string ft, .string fp] 46))
      have HC2 : Hid ((wr.alloc (.cells #[.int .i64 fi, .string ft, .string fp] 46)).heap[wr.heap.size]? = some (.cells #[.int .i64 fi, .string ft, .string fp] 46 (0, 0))) := Go.heap_alloc_new wr _
      clear k1 k2 k3 x3 HS
      revert HS2 HC2
      generalize wr.alloc (.cells #[.int .i64 fi, .string ft, .string fp] 46) = W2
      generalize wr.heap.size = c at *
      intro HS2 HC2
      have y0 : ∀ o, W2.cell? ⟨c, o, none⟩ = (#[.int .i64 fi, .string ft, .string fp] : Array Value)[o]? := fun o => Lib.cell_of_heap HC2.out o
      have HS3 := hide (HS2.out.alloc (.cells #[.int .i64 3, .bool true, .bool false, .bool false, .bool false, .int .i64 1, .int .i64 fi, .int .i64 0, .int .i64 0, .string ⟨#[]⟩, .string ft, .string fp, .slice none 0 0, .slice none 0 0] 57))
      go_wp2_with (at_builtin; refine wp_app ap_packets rfl _ _ rfl rfl av X.length cv (spCells X) (by rfl) HS3.out.out (some ⟨W2.heap.size, 0, none⟩) 1 1 (spC (flP ⟨fi, ft, fp⟩ true)) (by rfl) rfl (fun _ => ⟨_, rfl, World.news_of_block (Go.heap_alloc_new _ _)⟩) (spC_cell _) (by have := HLN.out; unfold maxLen; omega) (by have := HLN.out; omega) HS3.out.bel.size ?_; intro ao' cap w7 hown hgrow hat)
      have HS4 := hide (HS3.out.grown hgrow (L' := X ++ [flP ⟨fi, ft, fp⟩ true]) (n := X.length + 1) (by simp) (by rw [spCells_append, spCells_one]; exact hown))
      clear hown hgrow hat HS3 HS2 HC2 y0
      go_wp2
      go_round
      case rel => exact ⟨k + 1, ao', cap, by omega, by go_num, by rw [HSN.out, List.length_append]; rfl, hide (by rw [HSN.out]; exact HS4.out)⟩
      case measure => simp [intOf]; omega
    · obtain rfl : k = fl.length := by omega
      have hle : ¬ ((fl.length : Nat) : Int) < fl.length := by omega
      rw [List.take_length] at HS ⊢
      have HLN : Hid ((fl.map (flP · true)).length ≤ 3) := by refine hide ?_; simp; omega
      obtain ⟨X, hX⟩ : ∃ X, fl.map (flP · true) = X := ⟨_, rfl⟩
      rw [hX] at HS HLN ⊢
      have HX := hide hX
      clear hlt x3 hX
      have y1 := HS.out.box.cell
      go_wp2_with fail
      refine (CF.out _ (Nat.le_trans hN HS.out.bel.size) HS.out.fl HS.out.qu).mono ?_
      rintro e w5 ⟨x1, u1, x2, u2, xo, us, rfl, g1, g2, g3, g4, g5⟩
      have HS5 := hide (HS.out.step g5)
      have hal : Below w5.heap.size w5 (w5.alloc (.cells #[.string R.1.client, .bool R.1.on, .bool R.1.clean, .slice x1 R.1.fl.length u1, .slice x2 R.1.qu.length u2, .int .i64 R.1.next] 24)) := (Below.refl _ w5).alloc (Nat.le_refl _) _
      have HS6 := hide (HS5.out.step hal)
      have G1 := hide (g1.below hal)
      have G2 := hide (g2.below hal)
      have G3 := hide g3
      have G4 := hide (kown_below (kown_mono g4 HS.out.bel.size) hal)
      have D6 := hide (sat_new R.1 (.slice x1 R.1.fl.length u1) (.slice x2 R.1.qu.length u2) w5)
      clear g1 g2 g3 g4 g5 y1 HS CF hal
      go_upto_region 9 with fail
      revert HS6 G1 G2 G4 D6
      generalize w5.alloc (.cells #[.string R.1.client, .bool R.1.on, .bool R.1.clean, .slice x1 R.1.fl.length u1, .slice x2 R.1.qu.length u2, .int .i64 R.1.next] 24) = W6
      generalize w5.heap.size = b6 at *
      intro HS6 G1 G2 G4 D6
      clear HS5
      have d0 : W6.cell? ⟨b6, 0, none⟩ = some (.string R.1.client) := D6.out.cell 0
      have d1 : W6.cell? ⟨b6, 1, none⟩ = some (.bool R.1.on) := D6.out.cell 1
      have d2 : W6.cell? ⟨b6, 2, none⟩ = some (.bool R.1.clean) := D6.out.cell 2
      have d3 : W6.cell? ⟨b6, 3, none⟩ = some (.slice x1 R.1.fl.length u1) := D6.out.cell 3
      have d4 : W6.cell? ⟨b6, 4, none⟩ = some (.slice x2 R.1.qu.length u2) := D6.out.cell 4
      have d5 : W6.cell? ⟨b6, 5, none⟩ = some (.int .i64 R.1.next) := D6.out.cell 5
      have HSD := hide (HS6.out.step (Below.drew (Below.refl W6.heap.size W6)))
      have G4D := hide (kown_below G4.out (Below.drew (Below.refl W6.heap.size W6)))
      have hsl := spCells_len R.2
      have hR3 : R.2.length ≤ 3 := hR2
      have HLD : Hid (∀ W, W6.drew.grownBy W (Value.slice av X.length cv).ownBlock → SAt b6 R.1 (.slice x1 R.1.fl.length u1) (.slice x2 R.1.qu.length u2) W) := fun W hg => (D6.out.after (Below.drew (Below.refl _ _))).grown HSD.out.out (by decide) hg
      go_region_law (refine step_app ap_packets (by rfl) _ _ (by rfl) (by rfl) av X.length cv (spCells X) (by rfl) HSD.out.out xo R.2.length us (spCells R.2) (by rfl) hsl (own_row_news G4D.out) (spCells_one' _) (by have := HLN.out; unfold maxLen; omega) (by have := HLN.out; omega) HSD.out.bel.size ?_; intro ao' cap w7 hown hgrow hat; have q0 : w7.cell? ⟨b6, 0, none⟩ = some (.string R.1.client) := (HLD.out _ hgrow).cell 0; have q1 : w7.cell? ⟨b6, 1, none⟩ = some (.bool R.1.on) := (HLD.out _ hgrow).cell 1; have q2 : w7.cell? ⟨b6, 2, none⟩ = some (.bool R.1.clean) := (HLD.out _ hgrow).cell 2; have q3 : w7.cell? ⟨b6, 3, none⟩ = some (.slice x1 R.1.fl.length u1) := (HLD.out _ hgrow).cell 3; have q4 : w7.cell? ⟨b6, 4, none⟩ = some (.slice x2 R.1.qu.length u2) := (HLD.out _ hgrow).cell 4; have q5 : w7.cell? ⟨b6, 5, none⟩ = some (.int .i64 R.1.next) := (HLD.out _ hgrow).cell 5; have HSW := hide (HSD.out.grown hgrow (L' := X ++ R.2) (n := X.length + R.2.length) (by simp) (by rw [spCells_append]; exact hown)); have GW1 := hide ((G1.out.below (Below.drew (Below.refl _ _))).grown HSD.out.out HSD.out.nw (by decide) hgrow); have GW2 := hide ((G2.out.below (Below.drew (Below.refl _ _))).grown HSD.out.out HSD.out.nw (by decide) hgrow); have HOW := hide (show w7.ownsRow w.heap.size 57 14 (.slice ao' (X ++ R.2).length cap) (X ++ R.2).length (spCells (X ++ R.2)) from by rw [spCells_append, List.length_append]; exact hown); have z1 := HSW.out.zero.cell; have z2 := HSW.out.zero.frozen; simp only [zeroSe] at z1)
      all_goals
        clear hown hgrow hat HSD G4D HLD G1 G2 G4 HS6
        go_simp
        go_wp2
        exact bodyPost_ret (v := .tuple #[.agg #[.string R.1.client, .bool R.1.on, .bool R.1.clean, .slice x1 R.1.fl.length u1, .slice x2 R.1.qu.length u2, .int .i64 R.1.next], .slice ao' (X.length + R.2.length) cap]) (by simp [results, Tryd.results13, go_sem, World.cell?_setCell_same, z1]) rfl (by rw [HX.out]; exact FPost.put HSW.out (R := (R.1, X ++ R.2)) (y1 := u1) GW1.out GW2.out G3.out HOW.out _ _ _ _ _ _ (by rw [List.length_append]))
end Go.Proofs.YtnhcecgmcmcioaaDoor
