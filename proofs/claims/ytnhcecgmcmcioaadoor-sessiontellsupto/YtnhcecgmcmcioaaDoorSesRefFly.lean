/-
  dragomanref.FlyOf: what it answers.
-/
import Derived.Test.YtnhcecgmcmcioaaDoorSesRefBase
import Derived.Deep.LoopGhost
import Derived.Deep.RegionLaw
namespace Go.Proofs.YtnhcecgmcmcioaaDoor
open Go.RowKit Go.PlainAid

theorem nxt_next {n : Int} (h : 1 ≤ n ∧ n ≤ 65535) : nxt n = if 65535 < n + 1 then 1 else n + 1 := by
  unfold nxt
  by_cases h1 : n = 65535
  · rw [if_pos h1, if_pos (by omega)]
  · rw [if_neg h1, if_neg (by omega)]
theorem ap_packets : ApT Tryd.prog 25 57 14 144 :=
  ⟨by
    obtain ⟨i0, hi, hz0, hz1, hz2⟩ := info_parts (show (Tryd.prog.info? 57).map (fun i => (i.zero, i.size, i.bytes)) = some (some (.agg #[.int .i64 0, .bool false, .bool false, .bool false, .bool false, .int .i64 0, .int .i64 0, .int .i64 0, .int .i64 0, .string ⟨#[]⟩, .string ⟨#[]⟩, .string ⟨#[]⟩, .slice none 0 0, .slice none 0 0]), 14, 144) by kernel_rfl)
    exact ⟨i0, _, hi, hz0, hz1, hz2, rfl⟩, Tryd.underlying25, by decide⟩
theorem any_succ_f {l : List Fl} {j : Nat} {id : Int} (h : j < l.length) : (l.take (j + 1)).any (isI id) = ((l.take j).any (isI id) || (l[j].id == id)) := by
  rw [List.take_succ_eq_append_getElem h, List.any_append]
  simp [isI]
theorem spCells_len (l : List Pk) : (spCells l).length = l.length * 14 := by
  induction l with
  | nil => rfl
  | cons a l ih => rw [show a :: l = [a] ++ l from rfl, spCells_append, List.length_append, ih, spCells_one]; simp [spC]; omega

set_option maxHeartbeats 40000000 in
set_option maxRecDepth 100000 in
theorem flyOf_any (N : Nat) (s : Se) (aa ab : Option Addr) (ca cb : Nat) (w : World) (h1 : FlsB N w aa s.fl) (h2 : FlsB N w ab s.qu) (hq : s.qu.length ≤ cb) (hN : N ≤ w.heap.size) (hl : s.fl.length ≤ 3) (hn : 1 ≤ s.next ∧ s.next ≤ 65535) (hqn : s.qu.length ≤ 1048576) :
    Calls Tryd.prog 35 #[seV s aa ca ab cb] w (FPost N (flyS 3 s []) w) := by
  have HI0 := hide (ry_new s aa ca ab cb N w h1 h2 hq hN)
  generalize hR : flyS 3 s [] = R
  have HR := hide hR
  clear hR h1 h2 hq hN
  simp only [seV]
  go_enter Tryd.func35, Tryd.ntmps35
  go_upto_region 1 with fail
  revert HI0
  generalize (w.alloc (.cells #[.string s.client, .bool s.on, .bool s.clean, .slice aa s.fl.length ca, .slice ab s.qu.length cb, .int .i64 s.next] 24)).alloc (.cells #[.string ⟨#[]⟩, .bool false, .bool false, .slice none 0 0, .slice none 0 0, .int .i64 0] 24) = W0
  intro HI0
  go_wp2
  go_loopg [4] 3 (fun g x wr => ∃ (s' : Se) (L' : List Pk) (a1 : Option Addr) (c1 : Nat) (a2 : Option Addr) (c2 : Nat) (ao : Option Addr) (cs : Nat), x = .slice ao L'.length cs ∧ Hid (Ry N w.heap.size (w.heap.size + 1) s' a1 c1 a2 c2 ao cs L' w wr) ∧ Hid (flyS g s' L' = R) ∧ (s'.fl.length ≤ 3 ∧ 3 ≤ s'.fl.length + g ∧ L'.length + g ≤ 3 ∧ 1 ≤ s'.next ∧ s'.next ≤ 65535 ∧ s'.qu.length ≤ 1048576))
  case atStart => exact ⟨s, [], aa, ca, ab, cb, none, 0, rfl, HI0, HR, ⟨hl, by omega, by simp, hn.1, hn.2, hqn⟩⟩
  case round =>
    obtain ⟨s', L', a1, c1, a2, c2, ao, cs, rfl, HS, HR', hl', hg', hL', hn1, hn2, hqn'⟩ := hrel
    clear HI0 HR
    obtain ⟨cl, on, clean, fl, qu, nx⟩ := s'
    simp only at HS hl' hg' hn1 hn2 hqn'
    have x1 : wr.cell? ⟨w.heap.size, 1, none⟩ = some (.bool on) := HS.out.box.cell 1
    have x3 : wr.cell? ⟨w.heap.size, 3, none⟩ = some (.slice a1 fl.length c1) := HS.out.box.cell 3
    have x4 : wr.cell? ⟨w.heap.size, 4, none⟩ = some (.slice a2 qu.length c2) := HS.out.box.cell 4
    by_cases hgo : on = true ∧ qu ≠ [] ∧ fl.length < 3
    · obtain ⟨rfl, hq, h3⟩ := hgo
      obtain ⟨f, q, rfl⟩ : ∃ f q, qu = f :: q := by cases qu with | nil => exact absurd rfl hq | cons f q => exact ⟨f, q, rfl⟩
      obtain ⟨g, rfl⟩ : ∃ g, gk = g + 1 := ⟨gk - 1, by omega⟩
      have HF : Hid (flyS g ⟨cl, true, clean, fl ++ [⟨frId fl 4 nx, f.topic, f.load⟩], q, nxt (frId fl 4 nx)⟩ (L' ++ [flP ⟨frId fl 4 nx, f.topic, f.load⟩ false]) = R) := (flyS_step (f := f) (q := q) rfl rfl h3).symm.trans HR'.out
      obtain ⟨g0, o0, rfl, hg0, hc0⟩ := HS.out.qu.here (k := 0) (by simp)
      have q0 := (hc0 0 (by simp)).1
      have q1 := (hc0 0 (by simp)).2.1
      have q2 := (hc0 0 (by simp)).2.2
      simp only [Nat.zero_mul, Nat.add_zero, List.getElem_cons_zero] at q0 q1 q2
      have hcb : q.length + 1 ≤ c2 := HS.out.cq
      have hql : (f :: q).length = q.length + 1 := rfl
      rw [hql] at x4 hqn'
      have h3i : (fl.length : Int) < 3 := by omega
      have hqi : (0 : Int) < (q.length + 1 : Nat) := by omega
      have hcbi : ((q.length + 1 : Nat) : Int) ≤ c2 := by omega
      obtain ⟨A, hA⟩ : ∃ A, (if c2 = 1 then some (⟨g0, o0, none⟩ : Addr) else some ⟨g0, o0 + 3, none⟩) = A := ⟨_, rfl⟩
      have HA := hide hA
      clear hA hc0 hg0 HR'
      go_upto_region 4 with fail
      have HC1 : Hid ((wr.alloc (.cells #[.int .i64 f.id, .string f.topic, .string f.load] 46)).heap[wr.heap.size]? = some (.cells #[.int .i64 f.id, .string f.topic, .string f.load] 46 (0, 0))) := Go.heap_alloc_new wr _
      have HB1 := hide ((Below.refl wr.heap.size wr).alloc (Nat.le_refl _) (.cells #[.int .i64 f.id, .string f.topic, .string f.load] 46))
      revert HC1 HB1
      generalize wr.alloc (.cells #[.int .i64 f.id, .string f.topic, .string f.load] 46) = W1
      obtain ⟨wo, hwo⟩ : ∃ W, W = wr := ⟨_, rfl⟩
      subst hwo
      generalize hc : wo.heap.size = c
      intro HC1 HB1
      have HCS := hide hc
      clear hc x1 x3 x4 q0 q1 q2
      have HF1 := hide (frId_free (show fl.length ≤ 3 by omega) ⟨hn1, hn2⟩)
      generalize hR1 : frId fl 4 nx = R1 at *
      have HR1 := hide hR1
      clear hR1
      have HS1 : Hid (Ry N w.heap.size (w.heap.size + 1) ⟨cl, true, clean, fl, f :: q, nx⟩ a1 c1 (some ⟨g0, o0, none⟩) c2 ao cs L' w W1) := HS.out.step (by rw [HCS.out]; exact HB1.out)
      have x5 : W1.cell? ⟨w.heap.size, 5, none⟩ = some (.int .i64 nx) := HS1.out.box.cell 5
      go_wp2
      clear x5
      go_loopg [6, 7] 5 (fun g x y wr => ∃ (id : Int) (again : Bool), x = .int .i64 id ∧ y = .bool again ∧ (1 ≤ id ∧ id ≤ 65535) ∧ Hid (wr = W1 ∧ (if again = true then ∃ g', g = g' + 1 ∧ frId fl g' id = R1 else id = R1)))
      case atStart => exact ⟨nx, true, rfl, rfl, ⟨hn1, hn2⟩, rfl, by rw [if_pos rfl]; exact ⟨4, rfl, HR1.out⟩⟩
      case round =>
        obtain ⟨id, again, rfl, rfl, hid, HX⟩ := hrel
        have hw := HX.out.1
        subst hw
        have x3 : wr.cell? ⟨w.heap.size, 3, none⟩ = some (.slice a1 fl.length c1) := HS1.out.box.cell 3
        cases again with
        | true =>
          obtain ⟨gq, hgk, hfr⟩ := (show ∃ g', gk = g' + 1 ∧ frId fl g' id = R1 from by have := HX.out.2; rwa [if_pos rfl] at this)
          subst hgk
          have HFR := hide hfr
          clear hfr HX
          go_wp2
          go_loopw [7, 8] (fun y i wr' => ∃ j : Nat, j ≤ fl.length ∧ i = .int .i64 j ∧ y = .bool ((fl.take j).any (isI id)) ∧ Hid (wr' = wr)) (fun _ i _ => fl.length - (intOf i).toNat)
          case atStart => exact ⟨0, by omega, rfl, by simp, by first | exact rfl | exact trivial⟩
          case round =>
            obtain ⟨j, hj, rfl, rfl, hw⟩ := hrel
            have hw := hw.out
            subst hw
            by_cases hlt : j < fl.length
            · obtain ⟨fb, fo, rfl, hfb, hfc⟩ := HS1.out.fl.here hlt
              have k1 := (hfc j hlt).1
              have HNX := hide (any_succ_f (id := id) hlt)
              have hlti : (j : Int) < fl.length := by omega
              clear hfc
              obtain ⟨T, hT⟩ : ∃ T, (fl.take j).any (isI id) = T := ⟨_, rfl⟩
              rw [hT] at HNX ⊢
              clear hT
              generalize fl[j].id = fid at *
              by_cases he : fid = id
              · have he' : (fid == id) = true := by simp [he]
                have HT2 : Hid ((fl.take (j + 1)).any (isI id) = true) := by refine hide ?_; rw [HNX.out, he', Bool.or_true]
                clear he HNX
                go_wp2
                go_round
                case rel => exact ⟨j + 1, by omega, by go_num, by rw [HT2.out], by first | exact rfl | exact trivial⟩
                case measure => simp [intOf]; omega
              · have he' : (fid == id) = false := by simp [he]
                have HT2 : Hid ((fl.take (j + 1)).any (isI id) = T) := by refine hide ?_; rw [HNX.out, he', Bool.or_false]
                clear he HNX
                go_wp2
                go_round
                case rel => exact ⟨j + 1, by omega, by go_num, by rw [HT2.out], by first | exact rfl | exact trivial⟩
                case measure => simp [intOf]; omega
            · obtain rfl : j = fl.length := by omega
              have hle : ¬ ((fl.length : Nat) : Int) < fl.length := by omega
              obtain ⟨T, hT⟩ : ∃ T, (fl.take fl.length).any (isI id) = T := ⟨_, rfl⟩
              rw [hT]
              rw [List.take_length] at hT
              have HT := hide hT
              clear hT hlt
              cases T with
              | true =>
                cases gq with
                | zero =>
                  exfalso
                  have e1 : id = R1 := HFR.out
                  have e2 := HF1.out.1
                  rw [← e1, HT.out] at e2
                  cases e2
                | succ g4 =>
                  have HFN : Hid (frId fl g4 (nxt id) = R1) := by have := HFR.out; rw [frId, if_pos HT.out] at this; exact this
                  have hnx := nxt_in hid
                  have HNE := hide (nxt_next hid)
                  have hwr : IntKind.i64.wrap (id + 1) = id + 1 := by rw [IntKind.wrap_i64]; omega
                  generalize nxt id = id2 at *
                  clear HFR HT
                  by_cases hov : 65535 < id + 1
                  · obtain rfl : id2 = 1 := by have := HNE.out; rwa [if_pos hov] at this
                    clear HNE
                    go_wp2
                    go_roundg (g4 + 1)
                    case measure => omega
                    case rel => exact ⟨1, true, rfl, rfl, hnx, hide ⟨rfl, by rw [if_pos rfl]; exact ⟨g4, rfl, HFN.out⟩⟩⟩
                  · obtain rfl : id2 = id + 1 := by have := HNE.out; rwa [if_neg hov] at this
                    clear HNE
                    go_wp2
                    go_roundg (g4 + 1)
                    case measure => omega
                    case rel => exact ⟨id + 1, true, rfl, rfl, hnx, hide ⟨rfl, by rw [if_pos rfl]; exact ⟨g4, rfl, HFN.out⟩⟩⟩
              | false =>
                have HQ : Hid (id = R1) := by
                  have := HFR.out
                  cases gq with
                  | zero => exact this
                  | succ g => rw [frId, if_neg (by rw [HT.out]; decide)] at this; exact this
                clear HFR HT
                go_wp2
                go_roundg gq
                case measure => omega
                case rel => exact ⟨id, false, rfl, rfl, hid, hide ⟨rfl, by rw [if_neg (by decide)]; exact HQ.out⟩⟩
        | false =>
          obtain rfl : id = R1 := by have := HX.out.2; rwa [if_neg (by decide)] at this
          clear HX x3
          have HFR := hide HF1.out.2
          clear HF1 HR1
          have y1 : ∀ o, wr.cell? ⟨c, o, none⟩ = (#[.int .i64 f.id, .string f.topic, .string f.load] : Array Value)[o]? := fun o => Lib.cell_of_heap HC1.out o
          have y2 : ∀ o, wr.frozen? ⟨c, o, none⟩ = false := fun o => Lib.frozen_of_heap HC1.out o
          go_upto_region 18 with fail
          have HC2 : Hid ((wr.setCell ⟨c, 0, none⟩ (.int .i64 id)).heap[c]? = some (.cells #[.int .i64 id, .string f.topic, .string f.load] 46 (0, 0))) := by
            have := HC1.out
            refine hide ?_
            simp [World.setCell, Array.getElem?_modify, this]
          have HS2 : Hid (Ry N w.heap.size (w.heap.size + 1) ⟨cl, true, clean, fl, f :: q, nx⟩ a1 c1 (some ⟨g0, o0, none⟩) c2 ao cs L' w (wr.setCell ⟨c, 0, none⟩ (.int .i64 id))) := HS.out.step (by rw [HCS.out]; exact HB1.out.setCell (p := ⟨c, 0, none⟩) (Nat.le_refl c) (.int .i64 id))
          clear HC1 HB1 HS1 y1 y2
          revert HC2 HS2
          generalize wr.setCell ⟨c, 0, none⟩ (.int .i64 id) = W2
          intro HC2 HS2
          have hwr : IntKind.i64.wrap (id + 1) = id + 1 := by rw [IntKind.wrap_i64]; omega
          have y5 := HS2.out.box.cell 5
          have f5 := HS2.out.box.frozen 5
          have hbc : w.heap.size < c := by have := HS.out.box.lt; have := HCS.out; omega
          have HBC := hide hbc
          go_upto_region 19 with fail
          have HS3 := hide (HS2.out.putNext (id + 1))
          simp only at HS3
          have HC3 : Hid ((W2.setCell ⟨w.heap.size, 5, none⟩ (.int .i64 (id + 1))).heap[c]? = some (.cells #[.int .i64 id, .string f.topic, .string f.load] 46 (0, 0))) := by
            refine hide ?_
            rw [Below.heap_setCell _ _ _ _ (show c ≠ w.heap.size by omega)]; exact HC2.out
          clear HC2 HS2 y5 f5
          revert HC3 HS3
          generalize W2.setCell ⟨w.heap.size, 5, none⟩ (.int .i64 (id + 1)) = W3
          intro HS3 HC3
          have y5 : W3.cell? ⟨w.heap.size, 5, none⟩ = some (.int .i64 (id + 1)) := HS3.out.box.cell 5
          have f5 := HS3.out.box.frozen 5
          go_upto_if 57 with fail
          go_cut [6] (fun x wr => x = .int .i64 id ∧ Hid (Ry N w.heap.size (w.heap.size + 1) ⟨cl, true, clean, fl, f :: q, nxt id⟩ a1 c1 (some ⟨g0, o0, none⟩) c2 ao cs L' w wr ∧ wr.heap[c]? = some (.cells #[.int .i64 id, .string f.topic, .string f.load] 46 (0, 0))))
          case first =>
            as_aux_lemma =>
              by_cases hov : 65535 < id + 1
              · have hnx : nxt id = 1 := (nxt_next hid).trans (if_pos hov)
                have HS4 := hide (HS3.out.putNext 1)
                simp only at HS4
                have HC4 : Hid ((W3.setCell ⟨w.heap.size, 5, none⟩ (.int .i64 1)).heap[c]? = some (.cells #[.int .i64 id, .string f.topic, .string f.load] 46 (0, 0))) := by
                  refine hide ?_
                  rw [Below.heap_setCell _ _ _ _ (show c ≠ w.heap.size by omega)]; exact HC3.out
                go_wp2
                go_meet
                case rel => exact ⟨rfl, hide ⟨by rw [hnx]; exact HS4.out, HC4.out⟩⟩
              · have hnx : nxt id = id + 1 := (nxt_next hid).trans (if_neg hov)
                go_wp2
                go_meet
                case rel => exact ⟨rfl, hide ⟨by rw [hnx]; exact HS3.out, HC3.out⟩⟩
          case rest =>
            obtain ⟨rfl, HX⟩ := hcut
            clear HC3 HS3 y5 f5 hwr hbc
            have HS4 := hide HX.out.1
            have HC4 := hide HX.out.2
            clear HX
            have hnx := nxt_in hid
            generalize nxt id = nx2 at *
            go_upto_region 21 with fail
            go_cut [6] (fun x wr => x = .int .i64 id ∧ ∃ (x1 : Option Addr) (y1 : Nat), Hid (Ry N w.heap.size (w.heap.size + 1) ⟨cl, true, clean, fl ++ [⟨id, f.topic, f.load⟩], f :: q, nx2⟩ x1 y1 (some ⟨g0, o0, none⟩) c2 ao cs L' w wr ∧ wr.heap[c]? = some (.cells #[.int .i64 id, .string f.topic, .string f.load] 46 (0, 0))))
            case first =>
              as_aux_lemma =>
                clear HF HA HCS HFR HS hid hnx hn hqn hl hg' hL' hqn' hn1 hn2 hcb hql hqi hcbi
                have HKC : Hid (∀ V, Below wc.heap.size wc V → V.cell? ⟨c, 0, none⟩ = some (.int .i64 id) ∧ V.cell? ⟨c, 1, none⟩ = some (.string f.topic) ∧ V.cell? ⟨c, 2, none⟩ = some (.string f.load) ∧ V.cell? ⟨w.heap.size, 3, none⟩ = some (.slice a1 fl.length c1) ∧ V.frozen? ⟨w.heap.size, 3, none⟩ = false ∧ FlsB N V a1 fl ∧ wc.heap.size ≤ V.heap.size) := fun V hV => by
                  have h1 := (HS4.out.step hV)
                  have h2 : V.heap[c]? = _ := (hV.block c (Array.getElem?_eq_some_iff.1 HC4.out).1).trans HC4.out
                  exact ⟨(Lib.cell_of_heap h2 0), (Lib.cell_of_heap h2 1), (Lib.cell_of_heap h2 2), h1.box.cell 3, h1.box.frozen 3, h1.fl, hV.size⟩
                have y0 : wc.cell? ⟨c, 0, none⟩ = some (.int .i64 id) := (HKC.out wc (Below.refl _ _)).1
                have y1 : wc.cell? ⟨c, 1, none⟩ = some (.string f.topic) := (HKC.out wc (Below.refl _ _)).2.1
                have y2 : wc.cell? ⟨c, 2, none⟩ = some (.string f.load) := (HKC.out wc (Below.refl _ _)).2.2.1
                have y3 : wc.cell? ⟨w.heap.size, 3, none⟩ = some (.slice a1 fl.length c1) := (HKC.out wc (Below.refl _ _)).2.2.2.1
                have hf1 := flCells_len fl
                have HA1 : Hid (Below wc.heap.size wc ((wc.alloc (.cells #[] 46)).drew)) := Below.drew ((Below.refl _ wc).alloc (Nat.le_refl _) _)
                have HA2 : Hid (Below wc.heap.size wc (((wc.alloc (.cells #[] 46)).alloc (.cells #[.int .i64 id, .string f.topic, .string f.load] 46)).drew)) := Below.drew (((Below.refl _ wc).alloc (Nat.le_refl _) _).alloc (by simp) _)
                have HA3 : Hid (Below wc.heap.size wc (((wc.alloc (.cells #[.int .i64 id, .string f.topic, .string f.load] 46)).alloc (.cells #[] 46)).drew)) := Below.drew (((Below.refl _ wc).alloc (Nat.le_refl _) _).alloc (by simp) _)
                have HN1 : Hid (((wc.alloc (.cells #[] 46)).drew).ownsRow wc.heap.size 46 3 (.slice (some ⟨wc.heap.size, 0, none⟩) 0 0) 0 []) := kown_below (World.ownsRow_made wc #[] 0 (Nat.le_refl _) (by unfold maxLen; omega) (by rfl)) (Below.drew (Below.refl _ _))
                have HN2 : Hid ((((wc.alloc (.cells #[] 46)).alloc (.cells #[.int .i64 id, .string f.topic, .string f.load] 46)).drew).ownsRow wc.heap.size 46 3 (.slice (some ⟨wc.heap.size, 0, none⟩) 0 0) 0 []) := kown_below ((World.ownsRow_made wc #[] 0 (Nat.le_refl _) (by unfold maxLen; omega) (by rfl)).alloc _) (Below.drew (Below.refl _ _))
                have HN3 : Hid ((((wc.alloc (.cells #[.int .i64 id, .string f.topic, .string f.load] 46)).alloc (.cells #[] 46)).drew).ownsRow wc.heap.size 46 3 (.slice (some ⟨wc.heap.size + 1, 0, none⟩) 0 0) 0 []) := by
                  have := World.ownsRow_made (wc.alloc (.cells #[.int .i64 id, .string f.topic, .string f.load] 46)) #[] (base := wc.heap.size) (e := 46) (size := 3) 0 (by simp) (by unfold maxLen; omega) (by rfl)
                  simp only [World.size_alloc] at this
                  exact kown_below this (Below.drew (Below.refl _ _))
                have HE2 : Hid ((((wc.alloc (.cells #[] 46)).alloc (.cells #[.int .i64 id, .string f.topic, .string f.load] 46)).drew).heap[wc.heap.size + 1]? = some (.cells #[.int .i64 id, .string f.topic, .string f.load] 46 (0, 0))) := by
                  have := Go.heap_alloc_new (wc.alloc (.cells #[] 46)) (.cells #[.int .i64 id, .string f.topic, .string f.load] 46)
                  simp only [World.size_alloc] at this
                  exact this
                have HE3 : Hid ((((wc.alloc (.cells #[.int .i64 id, .string f.topic, .string f.load] 46)).alloc (.cells #[] 46)).drew).heap[wc.heap.size]? = some (.cells #[.int .i64 id, .string f.topic, .string f.load] 46 (0, 0))) := by
                  refine hide ?_
                  show ((wc.alloc (.cells #[.int .i64 id, .string f.topic, .string f.load] 46)).alloc (.cells #[] 46)).heap[wc.heap.size]? = _; rw [Below.heap_alloc _ _ _ (by simp)]; exact Go.heap_alloc_new wc _
                have v00 : (wc.alloc (.cells #[] 46)).cell? ⟨c, 0, none⟩ = some (.int .i64 id) := (HKC.out _ ((Below.refl _ wc).alloc (Nat.le_refl _) _)).1
                have v01 : (wc.alloc (.cells #[] 46)).cell? ⟨c, 1, none⟩ = some (.string f.topic) := (HKC.out _ ((Below.refl _ wc).alloc (Nat.le_refl _) _)).2.1
                have v02 : (wc.alloc (.cells #[] 46)).cell? ⟨c, 2, none⟩ = some (.string f.load) := (HKC.out _ ((Below.refl _ wc).alloc (Nat.le_refl _) _)).2.2.1
                have v03 : (wc.alloc (.cells #[] 46)).cell? ⟨w.heap.size, 3, none⟩ = some (.slice a1 fl.length c1) := (HKC.out _ ((Below.refl _ wc).alloc (Nat.le_refl _) _)).2.2.2.1
                have v10 : (wc.alloc (.cells #[.int .i64 id, .string f.topic, .string f.load] 46)).cell? ⟨c, 0, none⟩ = some (.int .i64 id) := (HKC.out _ ((Below.refl _ wc).alloc (Nat.le_refl _) _)).1
                have v11 : (wc.alloc (.cells #[.int .i64 id, .string f.topic, .string f.load] 46)).cell? ⟨c, 1, none⟩ = some (.string f.topic) := (HKC.out _ ((Below.refl _ wc).alloc (Nat.le_refl _) _)).2.1
                have v12 : (wc.alloc (.cells #[.int .i64 id, .string f.topic, .string f.load] 46)).cell? ⟨c, 2, none⟩ = some (.string f.load) := (HKC.out _ ((Below.refl _ wc).alloc (Nat.le_refl _) _)).2.2.1
                have v13 : (wc.alloc (.cells #[.int .i64 id, .string f.topic, .string f.load] 46)).cell? ⟨w.heap.size, 3, none⟩ = some (.slice a1 fl.length c1) := (HKC.out _ ((Below.refl _ wc).alloc (Nat.le_refl _) _)).2.2.2.1
                have v20 : ((wc.alloc (.cells #[] 46)).alloc (.cells #[.int .i64 id, .string f.topic, .string f.load] 46)).cell? ⟨c, 0, none⟩ = some (.int .i64 id) := (HKC.out _ (((Below.refl _ wc).alloc (Nat.le_refl _) _).alloc (by simp) _)).1
                have v21 : ((wc.alloc (.cells #[] 46)).alloc (.cells #[.int .i64 id, .string f.topic, .string f.load] 46)).cell? ⟨c, 1, none⟩ = some (.string f.topic) := (HKC.out _ (((Below.refl _ wc).alloc (Nat.le_refl _) _).alloc (by simp) _)).2.1
                have v22 : ((wc.alloc (.cells #[] 46)).alloc (.cells #[.int .i64 id, .string f.topic, .string f.load] 46)).cell? ⟨c, 2, none⟩ = some (.string f.load) := (HKC.out _ (((Below.refl _ wc).alloc (Nat.le_refl _) _).alloc (by simp) _)).2.2.1
                have v23 : ((wc.alloc (.cells #[] 46)).alloc (.cells #[.int .i64 id, .string f.topic, .string f.load] 46)).cell? ⟨w.heap.size, 3, none⟩ = some (.slice a1 fl.length c1) := (HKC.out _ (((Below.refl _ wc).alloc (Nat.le_refl _) _).alloc (by simp) _)).2.2.2.1
                have v30 : ((wc.alloc (.cells #[.int .i64 id, .string f.topic, .string f.load] 46)).alloc (.cells #[] 46)).cell? ⟨c, 0, none⟩ = some (.int .i64 id) := (HKC.out _ (((Below.refl _ wc).alloc (Nat.le_refl _) _).alloc (by simp) _)).1
                have v31 : ((wc.alloc (.cells #[.int .i64 id, .string f.topic, .string f.load] 46)).alloc (.cells #[] 46)).cell? ⟨c, 1, none⟩ = some (.string f.topic) := (HKC.out _ (((Below.refl _ wc).alloc (Nat.le_refl _) _).alloc (by simp) _)).2.1
                have v32 : ((wc.alloc (.cells #[.int .i64 id, .string f.topic, .string f.load] 46)).alloc (.cells #[] 46)).cell? ⟨c, 2, none⟩ = some (.string f.load) := (HKC.out _ (((Below.refl _ wc).alloc (Nat.le_refl _) _).alloc (by simp) _)).2.2.1
                have v33 : ((wc.alloc (.cells #[.int .i64 id, .string f.topic, .string f.load] 46)).alloc (.cells #[] 46)).cell? ⟨w.heap.size, 3, none⟩ = some (.slice a1 fl.length c1) := (HKC.out _ (((Below.refl _ wc).alloc (Nat.le_refl _) _).alloc (by simp) _)).2.2.2.1
                go_region_law (first
                  | (refine step_app ap_flights (by rfl) _ _ (by rfl) (by rfl) (some ⟨wc.heap.size, 0, none⟩) 0 0 [] (by rfl) HN1.out a1 fl.length c1 (flCells fl) (by rfl) hf1 (fls_in_news (HKC.out _ HA1.out).2.2.2.2.2.1.inn) (flCells_one _) (by unfold maxLen; omega) (by omega) HA1.out.size ?_; intro ao1 cap1 wa hown1 hgrow1 hat1; have hown1' : wa.ownsRow wc.heap.size 46 3 (.slice ao1 fl.length cap1) fl.length (flCells fl) := (by rw [Nat.zero_add, List.nil_append] at hown1; exact hown1); have hbw : Below wc.heap.size wc wa := Below.grown HA1.out hgrow1 HA1.out.size (fun g hg => (kown_at HN1.out hg).1); have k0 := (HKC.out wa hbw).1; have k1 := (HKC.out wa hbw).2.1; have k2 := (HKC.out wa hbw).2.2.1; have k3 := (HKC.out wa hbw).2.2.2.1)
                  | (refine step_app ap_flights (by rfl) _ _ (by rfl) (by rfl) ao1 fl.length cap1 _ (by rfl) (hown1'.alloc _) (some ⟨wa.heap.size, 0, none⟩) 1 1 [.int .i64 id, .string f.topic, .string f.load] (by rfl) rfl (fun _ => ⟨_, rfl, World.news_of_block (Go.heap_alloc_new wa _)⟩) (by simp [Value.oneCell']) (by unfold maxLen; omega) (by omega) (hbw.alloc hbw.size (.cells #[.int .i64 id, .string f.topic, .string f.load] 46)).size ?_; intro ao2 cap2 wb hown2 hgrow2 hat2; have hbb : Below wc.heap.size wc wb := Below.grown (hbw.alloc hbw.size (.cells #[.int .i64 id, .string f.topic, .string f.load] 46)) hgrow2 (hbw.alloc hbw.size (.cells #[.int .i64 id, .string f.topic, .string f.load] 46)).size (fun g hg => (kown_at hown1' hg).1); have m3 := (HKC.out wb hbb).2.2.2.1; have mf3 := (HKC.out wb hbb).2.2.2.2.1)
                  | (refine step_app ap_flights (by rfl) _ _ (by rfl) (by rfl) (some ⟨wc.heap.size, 0, none⟩) 0 0 [] (by rfl) HN2.out a1 fl.length c1 (flCells fl) (by rfl) hf1 (fls_in_news (HKC.out _ HA2.out).2.2.2.2.2.1.inn) (flCells_one _) (by unfold maxLen; omega) (by omega) HA2.out.size ?_; intro ao1 cap1 wa hown1 hgrow1 hat1; have hown1' : wa.ownsRow wc.heap.size 46 3 (.slice ao1 fl.length cap1) fl.length (flCells fl) := (by rw [Nat.zero_add, List.nil_append] at hown1; exact hown1); have hbw : Below wc.heap.size wc wa := Below.grown HA2.out hgrow1 HA2.out.size (fun g hg => (kown_at HN2.out hg).1); have hfe : wa.heap[wc.heap.size + 1]? = some (.cells #[.int .i64 id, .string f.topic, .string f.load] 46 (0, 0)) := (hgrow1.block _ (Array.getElem?_eq_some_iff.1 HE2.out).1 (by simp [Value.ownBlock])).trans HE2.out)
                  | (refine step_app ap_flights (by rfl) _ _ (by rfl) (by rfl) (some ⟨wc.heap.size + 1, 0, none⟩) 0 0 [] (by rfl) HN3.out a1 fl.length c1 (flCells fl) (by rfl) hf1 (fls_in_news (HKC.out _ HA3.out).2.2.2.2.2.1.inn) (flCells_one _) (by unfold maxLen; omega) (by omega) HA3.out.size ?_; intro ao1 cap1 wa hown1 hgrow1 hat1; have hown1' : wa.ownsRow wc.heap.size 46 3 (.slice ao1 fl.length cap1) fl.length (flCells fl) := (by rw [Nat.zero_add, List.nil_append] at hown1; exact hown1); have hbw : Below wc.heap.size wc wa := Below.grown HA3.out hgrow1 HA3.out.size (fun g hg => (kown_at HN3.out hg).1); have hfe : wa.heap[wc.heap.size]? = some (.cells #[.int .i64 id, .string f.topic, .string f.load] 46 (0, 0)) := (hgrow1.block _ (Array.getElem?_eq_some_iff.1 HE3.out).1 (by simp [Value.ownBlock])).trans HE3.out)
                  | (refine step_app ap_flights (by rfl) _ _ (by rfl) (by rfl) ao1 fl.length cap1 _ (by rfl) hown1' _ 1 1 [.int .i64 id, .string f.topic, .string f.load] (by rfl) rfl (fun _ => ⟨_, rfl, World.news_of_block hfe⟩) (by simp [Value.oneCell']) (by unfold maxLen; omega) (by omega) hbw.size ?_; intro ao2 cap2 wb hown2 hgrow2 hat2; have hbb : Below wc.heap.size wc wb := Below.grown hbw hgrow2 hbw.size (fun g hg => (kown_at hown1' hg).1); have m3 := (HKC.out wb hbb).2.2.2.1; have mf3 := (HKC.out wb hbb).2.2.2.2.1)
                  | fail)
                all_goals
                  have HB := HS4.out.step hbb
                  have HP := hide (HB.putFl (fl := fl ++ [⟨id, f.topic, f.load⟩]) (n := fl.length + 1) (by simp) (x1 := ao2) (y1 := cap2) (own_flsB (by rw [flCells_append]; exact hown2) (by simp)))
                  simp only at HP
                  have HC := hide ((hbb.block c (Array.getElem?_eq_some_iff.1 HC4.out).1).trans HC4.out)
                  have HC5 : Hid ((wb.setCell ⟨w.heap.size, 3, none⟩ (.slice ao2 (fl.length + 1) cap2)).heap[c]? = some (.cells #[.int .i64 id, .string f.topic, .string f.load] 46 (0, 0))) := by
                    refine hide ?_
                    rw [Below.heap_setCell _ _ _ _ (show c ≠ w.heap.size by have := HBC.out; omega)]; exact HC.out
                  clear HB HC
                  go_simp
                  go_wp2
                  go_meet
                  case rel => exact ⟨rfl, ao2, cap2, hide ⟨HP.out, HC5.out⟩⟩
            case rest =>
              obtain ⟨rfl, xf, yf, HX⟩ := hcut
              have HS5 := hide HX.out.1
              have HC5 := hide HX.out.2
              clear HX HS4 HC4
              have y4 : wc.cell? ⟨w.heap.size, 4, none⟩ = some (.slice (some ⟨g0, o0, none⟩) (q.length + 1) c2) := HS5.out.box.cell 4
              have f4 := HS5.out.box.frozen 4
              have hA := HA.out
              go_upto_region 23 with fail
              have HS6 := hide (HS5.out.putQu (qu := q) (n := q.length) rfl (x2 := A) (y2 := c2 - 1) (FlsB.tail HS5.out.qu hcb hA) (by omega))
              simp only at HS6
              have HC6 : Hid ((wc.setCell ⟨w.heap.size, 4, none⟩ (.slice A q.length (c2 - 1))).heap[c]? = some (.cells #[.int .i64 id, .string f.topic, .string f.load] 46 (0, 0))) := by
                refine hide ?_
                rw [Below.heap_setCell _ _ _ _ (show c ≠ w.heap.size by have := HBC.out; omega)]; exact HC5.out
              clear y4 f4 hA HA HS5 HC5
              revert HS6 HC6
              generalize wc.setCell ⟨w.heap.size, 4, none⟩ (.slice A q.length (c2 - 1)) = W6
              intro HS6 HC6
              have y1 : W6.cell? ⟨c, 1, none⟩ = some (.string f.topic) := Lib.cell_of_heap HC6.out 1
              have y2 : W6.cell? ⟨c, 2, none⟩ = some (.string f.load) := Lib.cell_of_heap HC6.out 2
              have HS7 := hide (HS6.out.alloc (.cells #[.int .i64 3, .bool false, .bool false, .bool false, .bool false, .int .i64 1, .int .i64 id, .int .i64 0, .int .i64 0, .string ⟨#[]⟩, .string f.topic, .string f.load, .slice none 0 0, .slice none 0 0] 57))
              have HPL : Hid (L'.length ≤ 3) := by refine hide ?_; omega
              go_wp2_with (at_builtin; refine wp_app ap_packets rfl _ _ rfl rfl ao L'.length cs (spCells L') (by rfl) HS7.out.out (some ⟨W6.heap.size, 0, none⟩) 1 1 (spC (flP ⟨id, f.topic, f.load⟩ false)) (by rfl) rfl (fun _ => ⟨_, rfl, World.news_of_block (Go.heap_alloc_new _ _)⟩) (spC_cell _) (by have := HPL.out; unfold maxLen; omega) (by have := HPL.out; omega) HS7.out.bel.size ?_; intro ao' cap w7 hown hgrow hat)
              have HS8 := hide (HS7.out.grown hgrow (L' := L' ++ [flP ⟨id, f.topic, f.load⟩ false]) (n := L'.length + 1) (by simp) (by rw [spCells_append, spCells_one]; exact hown))
              clear hown hgrow hat HS7 HS6 HC6 y1 y2
              go_wp2
              go_roundg g
              case measure => omega
              case rel => exact ⟨⟨cl, true, clean, fl ++ [⟨id, f.topic, f.load⟩], q, nx2⟩, L' ++ [flP ⟨id, f.topic, f.load⟩ false], xf, yf, A, c2 - 1, ao', cap, by simp, HS8, HF, ⟨by simp; omega, by simp; omega, by simp; omega, hnx.1, hnx.2, by simp only; omega⟩⟩
    · have HQ := hide (flyS_end (k := gk) (s := ⟨cl, on, clean, fl, qu, nx⟩) (L := L') (by
        simp only
        by_cases h1 : on = true
        · by_cases h2 : qu = []
          · exact .inr (.inl h2)
          · exact .inr (.inr fun h3 => hgo ⟨h1, h2, h3⟩)
        · exact .inl (by simpa using h1)))
      have HR1 := hide (HQ.out.symm.trans HR'.out)
      clear HQ HR'
      have x0 : wr.cell? ⟨w.heap.size, 0, none⟩ = some (.string cl) := HS.out.box.cell 0
      have x2 : wr.cell? ⟨w.heap.size, 2, none⟩ = some (.bool clean) := HS.out.box.cell 2
      have x5 : wr.cell? ⟨w.heap.size, 5, none⟩ = some (.int .i64 nx) := HS.out.box.cell 5
      have z1 := HS.out.zero.cell
      have z2 := HS.out.zero.frozen
      simp only [zeroSe] at z1
      have HD := hide (HS.out.done (s' := ⟨cl, on, clean, fl, qu, nx⟩) HS.out.fl HS.out.qu HS.out.cq HS.out.out (.string cl) (.bool on) (.bool clean) (.slice a1 fl.length c1) (.slice a2 qu.length c2) (.int .i64 nx))
      cases on with
      | false =>
        clear hgo
        go_wp2
        exact bodyPost_ret (v := .tuple #[.agg #[.string cl, .bool false, .bool clean, .slice a1 fl.length c1, .slice a2 qu.length c2, .int .i64 nx], .slice ao L'.length cs]) (by simp [results, Tryd.results35, go_sem, World.cell?_setCell_same, z1]) rfl (by rw [← HR1.out]; exact ⟨a1, c1, a2, c2, ao, cs, rfl, HD.out⟩)
      | true =>
        by_cases h2 : qu = []
        · subst h2
          clear hgo
          go_wp2
          exact bodyPost_ret (v := .tuple #[.agg #[.string cl, .bool true, .bool clean, .slice a1 fl.length c1, .slice a2 0 c2, .int .i64 nx], .slice ao L'.length cs]) (by simp [results, Tryd.results35, go_sem, World.cell?_setCell_same, z1]) rfl (by rw [← HR1.out]; exact ⟨a1, c1, a2, c2, ao, cs, rfl, HD.out⟩)
        · have h3 : ¬ fl.length < 3 := fun h3 => hgo ⟨rfl, h2, h3⟩
          have h3i : ¬ (fl.length : Int) < 3 := by omega
          have h2i : (0 : Int) < qu.length := by have := List.length_pos_iff.2 h2; omega
          clear hgo h2
          go_wp2
          exact bodyPost_ret (v := .tuple #[.agg #[.string cl, .bool true, .bool clean, .slice a1 fl.length c1, .slice a2 qu.length c2, .int .i64 nx], .slice ao L'.length cs]) (by simp [results, Tryd.results35, go_sem, World.cell?_setCell_same, z1]) rfl (by rw [← HR1.out]; exact ⟨a1, c1, a2, c2, ao, cs, rfl, HD.out⟩)
end Go.Proofs.YtnhcecgmcmcioaaDoor
