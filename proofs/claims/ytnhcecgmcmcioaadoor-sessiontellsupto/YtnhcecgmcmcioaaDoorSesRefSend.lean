/-
  dragomanref.SendOf: what it answers of a right session.
-/
import Derived.Test.YtnhcecgmcmcioaaDoorSesRefActs
namespace Go.Proofs.YtnhcecgmcmcioaaDoor
open Go.RowKit Go.PlainAid

theorem settled_fly {s : Se} (h : settled s = true) : flyS 3 s [] = (s, []) := by
  refine flyS_end ?_
  cases ho : s.on with
  | false => exact .inl rfl
  | true =>
    unfold settled at h
    rw [ho] at h
    simp only [cond_true, Bool.or_eq_true, decide_eq_true_eq] at h
    rcases h with h | h
    · exact .inr (.inl (List.length_eq_zero_iff.1 h))
    · exact .inr (.inr (by omega))
theorem chkS_settled {s : Se} (h : chkS s = 0) : settled s = true := by
  unfold chkS at h
  by_cases h1 : clB s.client = false
  · rw [if_pos h1] at h; cases h
  rw [if_neg h1] at h
  by_cases h2 : 3 < s.fl.length ∨ 6 < s.qu.length
  · rw [if_pos h2] at h; cases h
  rw [if_neg h2] at h
  by_cases h3 : fchkL [] s.fl ≠ 0
  · rw [if_pos h3] at h; exact absurd h h3
  rw [if_neg h3] at h
  by_cases h4 : qchkL s.qu ≠ 0
  · rw [if_pos h4] at h; exact absurd h h4
  rw [if_neg h4] at h
  by_cases h5 : idOk s.next = false
  · rw [if_pos h5] at h; cases h
  rw [if_neg h5] at h
  by_cases h6 : settled s = false
  · rw [if_pos h6] at h; cases h
  · simpa using h6
theorem sendS_blocked {s : Se} {t p : ByteArray} (h : settled s = true) (hb : (s.on = false ∧ s.clean = true) ∨ s.qu.length = 6) : sendS s t p 1 = (s, []) := by
  have hq : quS s t p = s := by
    unfold quS
    refine if_neg ?_
    rintro ⟨h1, h2⟩
    rcases hb with ⟨b1, b2⟩ | hb
    · rcases h1 with h1 | h1
      · rw [b1] at h1; cases h1
      · rw [b2] at h1; cases h1
    · omega
  unfold sendS
  rw [if_pos rfl, hq]
  exact settled_fly h
theorem sendS_more {s : Se} {t p : ByteArray} (h : s.on = true ∨ s.clean = false) (hq : s.qu.length < 6) : sendS s t p 1 = flyS 3 { s with qu := s.qu ++ [⟨0, t, p⟩] } [] := by
  unfold sendS quS
  rw [if_pos rfl, if_pos ⟨h, hq⟩]

set_option maxHeartbeats 8000000 in
set_option maxRecDepth 100000 in
theorem sendOf_0 (N : Nat) (s : Se) (aa ab : Option Addr) (ca cb : Nat) (t p : ByteArray) (w : World) (h1 : FlsB N w aa s.fl) (h2 : FlsB N w ab s.qu) (hq : s.qu.length ≤ cb) (hN : N ≤ w.heap.size) :
    Calls Tryd.prog 11 #[seV s aa ca ab cb, .string t, .string p, .int .i64 0] w (FPost N (sendS s t p 0) w) := by
  have HI0 := hide (ry_new s aa ca ab cb N w h1 h2 hq hN)
  have HR : Hid (sendS s t p 0 = if s.on = true then (s, [⟨3, false, false, false, false, 0, 0, 0, 0, ⟨#[]⟩, t, p, [], []⟩]) else (s, [])) := rfl
  generalize sendS s t p 0 = R at *
  clear h1 h2 hq hN
  obtain ⟨cl, on, clean, fl, qu, nx⟩ := s
  simp only [seV] at HI0 HR ⊢
  go_enter Tryd.func11, Tryd.ntmps11
  go_upto_region 1 with fail
  revert HI0
  generalize (w.alloc (.cells #[.string cl, .bool on, .bool clean, .slice aa fl.length ca, .slice ab qu.length cb, .int .i64 nx] 24)).alloc (.cells #[.string ⟨#[]⟩, .bool false, .bool false, .slice none 0 0, .slice none 0 0, .int .i64 0] 24) = W0
  intro HI0
  have x0 : W0.cell? ⟨w.heap.size, 0, none⟩ = some (.string cl) := HI0.out.box.cell 0
  have x1 : W0.cell? ⟨w.heap.size, 1, none⟩ = some (.bool on) := HI0.out.box.cell 1
  have x2 : W0.cell? ⟨w.heap.size, 2, none⟩ = some (.bool clean) := HI0.out.box.cell 2
  have x3 : W0.cell? ⟨w.heap.size, 3, none⟩ = some (.slice aa fl.length ca) := HI0.out.box.cell 3
  have x4 : W0.cell? ⟨w.heap.size, 4, none⟩ = some (.slice ab qu.length cb) := HI0.out.box.cell 4
  have x5 : W0.cell? ⟨w.heap.size, 5, none⟩ = some (.int .i64 nx) := HI0.out.box.cell 5
  cases on with
  | false =>
    have HQ := hide (HR.out.trans (if_neg (by decide)))
    clear HR
    have z1 := HI0.out.zero.cell
    have z2 := HI0.out.zero.frozen
    simp only [zeroSe] at z1
    go_wp2
    exact bodyPost_ret (v := .tuple #[.agg #[.string cl, .bool false, .bool clean, .slice aa fl.length ca, .slice ab qu.length cb, .int .i64 nx], .slice none 0 0]) (by simp [results, Tryd.results11, go_sem, World.cell?_setCell_same, z1]) rfl (by rw [HQ.out]; exact FPost.put HI0.out (R := (⟨cl, false, clean, fl, qu, nx⟩, [])) HI0.out.fl HI0.out.qu HI0.out.cq HI0.out.out _ _ _ _ _ _ rfl)
  | true =>
    have HQ := hide (HR.out.trans (if_pos rfl))
    clear HR
    have HS1 := hide (HI0.out.alloc (.cells #[.int .i64 3, .bool false, .bool false, .bool false, .bool false, .int .i64 0, .int .i64 0, .int .i64 0, .int .i64 0, .string ⟨#[]⟩, .string t, .string p, .slice none 0 0, .slice none 0 0] 57))
    have HO1 : Hid ((W0.alloc (.cells #[.int .i64 3, .bool false, .bool false, .bool false, .bool false, .int .i64 0, .int .i64 0, .int .i64 0, .int .i64 0, .string ⟨#[]⟩, .string t, .string p, .slice none 0 0, .slice none 0 0] 57)).ownsRow w.heap.size 57 14 (.slice (some ⟨W0.heap.size, 0, none⟩) 1 1) 1 (spC ⟨3, false, false, false, false, 0, 0, 0, 0, ⟨#[]⟩, t, p, [], []⟩)) := World.ownsRow_lit (base := w.heap.size) (e := 57) (size := 14) W0 #[.int .i64 3, .bool false, .bool false, .bool false, .bool false, .int .i64 0, .int .i64 0, .int .i64 0, .int .i64 0, .string ⟨#[]⟩, .string t, .string p, .slice none 0 0, .slice none 0 0] 1 HI0.out.bel.size (by unfold maxLen; omega) rfl
    have z1 : ∀ o, (W0.alloc (.cells #[.int .i64 3, .bool false, .bool false, .bool false, .bool false, .int .i64 0, .int .i64 0, .int .i64 0, .int .i64 0, .string ⟨#[]⟩, .string t, .string p, .slice none 0 0, .slice none 0 0] 57)).cell? ⟨w.heap.size + 1, o, none⟩ = (#[.string ⟨#[]⟩, .bool false, .bool false, .slice none 0 0, .slice none 0 0, .int .i64 0] : Array Value)[o]? := HS1.out.zero.cell
    have z2 := HS1.out.zero.frozen
    go_wp2
    exact bodyPost_ret (v := .tuple #[.agg #[.string cl, .bool true, .bool clean, .slice aa fl.length ca, .slice ab qu.length cb, .int .i64 nx], .slice (some ⟨W0.heap.size, 0, none⟩) 1 1]) (by simp [results, Tryd.results11, go_sem, World.cell?_setCell_same, z1]) rfl (by rw [HQ.out]; exact FPost.put HS1.out (R := (⟨cl, true, clean, fl, qu, nx⟩, [⟨3, false, false, false, false, 0, 0, 0, 0, ⟨#[]⟩, t, p, [], []⟩])) HS1.out.fl HS1.out.qu HS1.out.cq (by rw [spCells_one]; exact HO1.out) _ _ _ _ _ _ rfl)

set_option maxHeartbeats 8000000 in
set_option maxRecDepth 100000 in
theorem sendOf_1 (N : Nat) (s : Se) (aa ab : Option Addr) (ca cb : Nat) (t p : ByteArray) (w : World) (h1 : FlsB N w aa s.fl) (h2 : FlsB N w ab s.qu) (hq : s.qu.length ≤ cb) (hN : N ≤ w.heap.size) (hl : s.fl.length ≤ 3) (hn : 1 ≤ s.next ∧ s.next ≤ 65535) (hqn : s.qu.length ≤ 6) (hst : settled s = true) :
    Calls Tryd.prog 11 #[seV s aa ca ab cb, .string t, .string p, .int .i64 1] w (FPost N (sendS s t p 1) w) := by
  have HI0 := hide (ry_new s aa ca ab cb N w h1 h2 hq hN)
  have HRB := hide (sendS_blocked (t := t) (p := p) hst)
  have HRM := hide (sendS_more (s := s) (t := t) (p := p))
  have CF : Hid (∀ V x y, N ≤ V.heap.size → FlsB N V aa s.fl → FlsB N V x (s.qu ++ [(⟨0, t, p⟩ : Fl)]) → (s.qu ++ [(⟨0, t, p⟩ : Fl)]).length ≤ y → Calls Tryd.prog 35 #[.agg #[.string s.client, .bool s.on, .bool s.clean, .slice aa s.fl.length ca, .slice x (s.qu ++ [(⟨0, t, p⟩ : Fl)]).length y, .int .i64 s.next]] V (FPost N (flyS 3 { s with qu := s.qu ++ [⟨0, t, p⟩] } []) V)) := fun V x y hV hx hy hc => flyOf_any N { s with qu := s.qu ++ [⟨0, t, p⟩] } aa x ca y V hx hy hc hV hl hn (by simp; omega)
  generalize sendS s t p 1 = R at *
  clear h1 h2 hq hst
  obtain ⟨cl, on, clean, fl, qu, nx⟩ := s
  simp only [seV] at HI0 HRB HRM CF hl hqn ⊢
  go_enter Tryd.func11, Tryd.ntmps11
  go_upto_region 1 with fail
  revert HI0
  generalize (w.alloc (.cells #[.string cl, .bool on, .bool clean, .slice aa fl.length ca, .slice ab qu.length cb, .int .i64 nx] 24)).alloc (.cells #[.string ⟨#[]⟩, .bool false, .bool false, .slice none 0 0, .slice none 0 0, .int .i64 0] 24) = W0
  intro HI0
  have x1 : W0.cell? ⟨w.heap.size, 1, none⟩ = some (.bool on) := HI0.out.box.cell 1
  have x2 : W0.cell? ⟨w.heap.size, 2, none⟩ = some (.bool clean) := HI0.out.box.cell 2
  have x4 : W0.cell? ⟨w.heap.size, 4, none⟩ = some (.slice ab qu.length cb) := HI0.out.box.cell 4
  by_cases hb : on = false ∧ clean = true
  · obtain ⟨rfl, rfl⟩ := hb
    have HQ := hide (HRB.out (.inl ⟨rfl, rfl⟩))
    clear HRB HRM CF
    have x0 : W0.cell? ⟨w.heap.size, 0, none⟩ = some (.string cl) := HI0.out.box.cell 0
    have x3 : W0.cell? ⟨w.heap.size, 3, none⟩ = some (.slice aa fl.length ca) := HI0.out.box.cell 3
    have x5 : W0.cell? ⟨w.heap.size, 5, none⟩ = some (.int .i64 nx) := HI0.out.box.cell 5
    have z1 := HI0.out.zero.cell
    have z2 := HI0.out.zero.frozen
    simp only [zeroSe] at z1
    go_wp2
    exact bodyPost_ret (v := .tuple #[.agg #[.string cl, .bool false, .bool true, .slice aa fl.length ca, .slice ab qu.length cb, .int .i64 nx], .slice none 0 0]) (by simp [results, Tryd.results11, go_sem, World.cell?_setCell_same, z1]) rfl (by rw [HQ.out]; exact FPost.put HI0.out (R := (⟨cl, false, true, fl, qu, nx⟩, [])) HI0.out.fl HI0.out.qu HI0.out.cq HI0.out.out _ _ _ _ _ _ rfl)
  · by_cases h6 : qu.length = 6
    · have h6d : ((qu.length : Int) == 6) = true := by simp [h6]
      cases on with
      | true =>
        have HQ := hide (HRB.out (.inr h6))
        clear h6
        clear HRB HRM CF
        have x0 : W0.cell? ⟨w.heap.size, 0, none⟩ = some (.string cl) := HI0.out.box.cell 0
        have x3 : W0.cell? ⟨w.heap.size, 3, none⟩ = some (.slice aa fl.length ca) := HI0.out.box.cell 3
        have x5 : W0.cell? ⟨w.heap.size, 5, none⟩ = some (.int .i64 nx) := HI0.out.box.cell 5
        have z1 := HI0.out.zero.cell
        have z2 := HI0.out.zero.frozen
        simp only [zeroSe] at z1
        go_wp2
        exact bodyPost_ret (v := .tuple #[.agg #[.string cl, .bool true, .bool clean, .slice aa fl.length ca, .slice ab qu.length cb, .int .i64 nx], .slice none 0 0]) (by simp [results, Tryd.results11, go_sem, World.cell?_setCell_same, z1]) rfl (by rw [HQ.out]; exact FPost.put HI0.out (R := (⟨cl, true, clean, fl, qu, nx⟩, [])) HI0.out.fl HI0.out.qu HI0.out.cq HI0.out.out _ _ _ _ _ _ rfl)
      | false =>
        cases clean with
        | true => exact absurd ⟨rfl, rfl⟩ hb
        | false =>
          have HQ := hide (HRB.out (.inr h6))
          clear h6
          clear HRB HRM CF
          have x0 : W0.cell? ⟨w.heap.size, 0, none⟩ = some (.string cl) := HI0.out.box.cell 0
          have x3 : W0.cell? ⟨w.heap.size, 3, none⟩ = some (.slice aa fl.length ca) := HI0.out.box.cell 3
          have x5 : W0.cell? ⟨w.heap.size, 5, none⟩ = some (.int .i64 nx) := HI0.out.box.cell 5
          have z1 := HI0.out.zero.cell
          have z2 := HI0.out.zero.frozen
          simp only [zeroSe] at z1
          go_wp2
          exact bodyPost_ret (v := .tuple #[.agg #[.string cl, .bool false, .bool false, .slice aa fl.length ca, .slice ab qu.length cb, .int .i64 nx], .slice none 0 0]) (by simp [results, Tryd.results11, go_sem, World.cell?_setCell_same, z1]) rfl (by rw [HQ.out]; exact FPost.put HI0.out (R := (⟨cl, false, false, fl, qu, nx⟩, [])) HI0.out.fl HI0.out.qu HI0.out.cq HI0.out.out _ _ _ _ _ _ rfl)
    · have h6d : ((qu.length : Int) == 6) = false := by simp; omega
      cases on with
      | true =>
        have HQ := hide (HRM.out (.inl rfl) (by omega))
        clear HRB HRM
        go_upto_region 7 with fail
        have f4 := HI0.out.box.frozen 4
        have HA1 : Hid (Below W0.heap.size W0 (W0.alloc (.cells #[] 46))) := (Below.refl _ _).alloc (Nat.le_refl _) _
        have HN1 : Hid ((W0.alloc (.cells #[] 46)).ownsRow W0.heap.size 46 3 (.slice (some ⟨W0.heap.size, 0, none⟩) 0 0) 0 []) := World.ownsRow_made W0 #[] 0 (Nat.le_refl _) (by unfold maxLen; omega) (by rfl)
        have HQ1 := hide (HI0.out.qu.below HA1.out)
        have y4 : (W0.alloc (.cells #[] 46)).cell? ⟨w.heap.size, 4, none⟩ = some (.slice ab qu.length cb) := (HI0.out.step HA1.out).box.cell 4
        have hf1 := flCells_len qu
        go_upto_region 8 with (first | (at_builtin; refine wp_app ap_flights rfl _ _ rfl rfl (some ⟨W0.heap.size, 0, none⟩) 0 0 [] (by rfl) HN1.out ab qu.length cb (flCells qu) (by rfl) hf1 (fls_in_news HQ1.out.inn) (flCells_one _) (by unfold maxLen; omega) (by omega) HA1.out.size ?_; intro ao1 cap1 wa hown1 hgrow1 hat1; have HO1 : Hid (wa.ownsRow W0.heap.size 46 3 (.slice ao1 qu.length cap1) qu.length (flCells qu)) := (by refine hide ?_; rw [Nat.zero_add, List.nil_append] at hown1; exact hown1); have HA2 : Hid (Below W0.heap.size W0 wa) := Below.grown HA1.out hgrow1 HA1.out.size (fun g hg => (kown_at HN1.out hg).1); have HA3 := hide (HA2.out.alloc HA2.out.size (.cells #[.int .i64 0, .string t, .string p] 46)); have HO3 := hide (HO1.out.alloc (.cells #[.int .i64 0, .string t, .string p] 46))) | (at_builtin; refine wp_app ap_flights rfl _ _ rfl rfl ao1 qu.length cap1 (flCells qu) (by rfl) HO3.out (some ⟨wa.heap.size, 0, none⟩) 1 1 [.int .i64 0, .string t, .string p] (by rfl) rfl (fun _ => ⟨_, rfl, World.news_of_block (Go.heap_alloc_new _ _)⟩) (by simp [Value.oneCell']) (by unfold maxLen; omega) (by omega) HA3.out.size ?_; intro ao2 cap2 wb hown2 hgrow2 hat2; have HA4 : Hid (Below W0.heap.size W0 wb) := Below.grown HA3.out hgrow2 HA3.out.size (fun g hg => (kown_at HO3.out hg).1); have HS4 := hide (HI0.out.step HA4.out); have m4 : wb.cell? ⟨w.heap.size, 4, none⟩ = some (.slice ab qu.length cb) := HS4.out.box.cell 4; have mf4 := HS4.out.box.frozen 4))
        have HCP : Hid ((qu ++ [(⟨0, t, p⟩ : Fl)]).length ≤ cap2) := by
          refine hide ?_
          rcases row_form hown2 with ⟨_, h0, _⟩ | ⟨_, _, h⟩
          · omega
          · rw [List.length_append]; exact h
        have HF4 := hide (own_flsB (N := N) (l := qu ++ [(⟨0, t, p⟩ : Fl)]) (n := qu.length + 1) (by rw [flCells_append]; exact hown2) (by simp))
        clear hown1 hgrow1 hat1 HN1 HA1 HQ1 y4 hown2 hgrow2 hat2 HO1 HO3 HA2 HA3 HI0 x1 x2 x4 f4
        have HS5 := hide (HS4.out.putQu (qu := qu ++ [(⟨0, t, p⟩ : Fl)]) (n := qu.length + 1) (by simp) (x2 := ao2) (y2 := cap2) HF4.out HCP.out)
        simp only at HS5
        clear HS4 m4 mf4 HF4 HA4
        revert HS5
        generalize wb.setCell ⟨w.heap.size, 4, none⟩ (.slice ao2 (qu.length + 1) cap2) = W5
        intro HS5
        have hql : (qu ++ [(⟨0, t, p⟩ : Fl)]).length = qu.length + 1 := by simp
        rw [hql] at CF
        have y0 : W5.cell? ⟨w.heap.size, 0, none⟩ = some (.string cl) := HS5.out.box.cell 0
        have y1 : W5.cell? ⟨w.heap.size, 1, none⟩ = some (.bool true) := HS5.out.box.cell 1
        have y2 : W5.cell? ⟨w.heap.size, 2, none⟩ = some (.bool clean) := HS5.out.box.cell 2
        have y3 : W5.cell? ⟨w.heap.size, 3, none⟩ = some (.slice aa fl.length ca) := HS5.out.box.cell 3
        have y4 : W5.cell? ⟨w.heap.size, 4, none⟩ = some (.slice ao2 (qu.length + 1) cap2) := by have := HS5.out.box.cell 4; rw [hql] at this; exact this
        have y5 : W5.cell? ⟨w.heap.size, 5, none⟩ = some (.int .i64 nx) := HS5.out.box.cell 5
        rw [hql] at HCP
        clear hql
        rw [← HQ.out] at CF
        go_wp2_with fail
        refine (CF.out _ _ _ (Nat.le_trans hN HS5.out.bel.size) HS5.out.fl HS5.out.qu HCP.out).mono ?_
        rintro e w6 ⟨r1, u1, r2, u2, xo, us, rfl, g1, g2, g3, g4, g5⟩
        have HS6 := hide (HS5.out.step g5)
        have G1 := hide g1
        have G2 := hide g2
        have G3 := hide g3
        have G4 := hide (kown_mono g4 HS5.out.bel.size)
        clear g1 g2 g3 g4 g5 y0 y1 y2 y3 y4 y5 HS5 CF
        have z1 := HS6.out.zero.cell
        have z2 := HS6.out.zero.frozen
        simp only [zeroSe] at z1
        go_wp2
        exact bodyPost_ret (v := .tuple #[.agg #[.string R.1.client, .bool R.1.on, .bool R.1.clean, .slice r1 R.1.fl.length u1, .slice r2 R.1.qu.length u2, .int .i64 R.1.next], .slice xo R.2.length us]) (by simp [results, Tryd.results11, go_sem, World.cell?_setCell_same, z1]) rfl (FPost.put HS6.out G1.out G2.out G3.out G4.out _ _ _ _ _ _ rfl)
      | false =>
        cases clean with
        | true => exact absurd ⟨rfl, rfl⟩ hb
        | false =>
          have HQ := hide (HRM.out (.inr rfl) (by omega))
          clear HRB HRM
          go_upto_region 7 with fail
          have f4 := HI0.out.box.frozen 4
          have HA1 : Hid (Below W0.heap.size W0 (W0.alloc (.cells #[] 46))) := (Below.refl _ _).alloc (Nat.le_refl _) _
          have HN1 : Hid ((W0.alloc (.cells #[] 46)).ownsRow W0.heap.size 46 3 (.slice (some ⟨W0.heap.size, 0, none⟩) 0 0) 0 []) := World.ownsRow_made W0 #[] 0 (Nat.le_refl _) (by unfold maxLen; omega) (by rfl)
          have HQ1 := hide (HI0.out.qu.below HA1.out)
          have y4 : (W0.alloc (.cells #[] 46)).cell? ⟨w.heap.size, 4, none⟩ = some (.slice ab qu.length cb) := (HI0.out.step HA1.out).box.cell 4
          have hf1 := flCells_len qu
          go_upto_region 8 with (first | (at_builtin; refine wp_app ap_flights rfl _ _ rfl rfl (some ⟨W0.heap.size, 0, none⟩) 0 0 [] (by rfl) HN1.out ab qu.length cb (flCells qu) (by rfl) hf1 (fls_in_news HQ1.out.inn) (flCells_one _) (by unfold maxLen; omega) (by omega) HA1.out.size ?_; intro ao1 cap1 wa hown1 hgrow1 hat1; have HO1 : Hid (wa.ownsRow W0.heap.size 46 3 (.slice ao1 qu.length cap1) qu.length (flCells qu)) := (by refine hide ?_; rw [Nat.zero_add, List.nil_append] at hown1; exact hown1); have HA2 : Hid (Below W0.heap.size W0 wa) := Below.grown HA1.out hgrow1 HA1.out.size (fun g hg => (kown_at HN1.out hg).1); have HA3 := hide (HA2.out.alloc HA2.out.size (.cells #[.int .i64 0, .string t, .string p] 46)); have HO3 := hide (HO1.out.alloc (.cells #[.int .i64 0, .string t, .string p] 46))) | (at_builtin; refine wp_app ap_flights rfl _ _ rfl rfl ao1 qu.length cap1 (flCells qu) (by rfl) HO3.out (some ⟨wa.heap.size, 0, none⟩) 1 1 [.int .i64 0, .string t, .string p] (by rfl) rfl (fun _ => ⟨_, rfl, World.news_of_block (Go.heap_alloc_new _ _)⟩) (by simp [Value.oneCell']) (by unfold maxLen; omega) (by omega) HA3.out.size ?_; intro ao2 cap2 wb hown2 hgrow2 hat2; have HA4 : Hid (Below W0.heap.size W0 wb) := Below.grown HA3.out hgrow2 HA3.out.size (fun g hg => (kown_at HO3.out hg).1); have HS4 := hide (HI0.out.step HA4.out); have m4 : wb.cell? ⟨w.heap.size, 4, none⟩ = some (.slice ab qu.length cb) := HS4.out.box.cell 4; have mf4 := HS4.out.box.frozen 4))
          have HCP : Hid ((qu ++ [(⟨0, t, p⟩ : Fl)]).length ≤ cap2) := by
            refine hide ?_
            rcases row_form hown2 with ⟨_, h0, _⟩ | ⟨_, _, h⟩
            · omega
            · rw [List.length_append]; exact h
          have HF4 := hide (own_flsB (N := N) (l := qu ++ [(⟨0, t, p⟩ : Fl)]) (n := qu.length + 1) (by rw [flCells_append]; exact hown2) (by simp))
          clear hown1 hgrow1 hat1 HN1 HA1 HQ1 y4 hown2 hgrow2 hat2 HO1 HO3 HA2 HA3 HI0 x1 x2 x4 f4
          have HS5 := hide (HS4.out.putQu (qu := qu ++ [(⟨0, t, p⟩ : Fl)]) (n := qu.length + 1) (by simp) (x2 := ao2) (y2 := cap2) HF4.out HCP.out)
          simp only at HS5
          clear HS4 m4 mf4 HF4 HA4
          revert HS5
          generalize wb.setCell ⟨w.heap.size, 4, none⟩ (.slice ao2 (qu.length + 1) cap2) = W5
          intro HS5
          have hql : (qu ++ [(⟨0, t, p⟩ : Fl)]).length = qu.length + 1 := by simp
          rw [hql] at CF
          have y0 : W5.cell? ⟨w.heap.size, 0, none⟩ = some (.string cl) := HS5.out.box.cell 0
          have y1 : W5.cell? ⟨w.heap.size, 1, none⟩ = some (.bool false) := HS5.out.box.cell 1
          have y2 : W5.cell? ⟨w.heap.size, 2, none⟩ = some (.bool false) := HS5.out.box.cell 2
          have y3 : W5.cell? ⟨w.heap.size, 3, none⟩ = some (.slice aa fl.length ca) := HS5.out.box.cell 3
          have y4 : W5.cell? ⟨w.heap.size, 4, none⟩ = some (.slice ao2 (qu.length + 1) cap2) := by have := HS5.out.box.cell 4; rw [hql] at this; exact this
          have y5 : W5.cell? ⟨w.heap.size, 5, none⟩ = some (.int .i64 nx) := HS5.out.box.cell 5
          rw [hql] at HCP
          clear hql
          rw [← HQ.out] at CF
          go_wp2_with fail
          refine (CF.out _ _ _ (Nat.le_trans hN HS5.out.bel.size) HS5.out.fl HS5.out.qu HCP.out).mono ?_
          rintro e w6 ⟨r1, u1, r2, u2, xo, us, rfl, g1, g2, g3, g4, g5⟩
          have HS6 := hide (HS5.out.step g5)
          have G1 := hide g1
          have G2 := hide g2
          have G3 := hide g3
          have G4 := hide (kown_mono g4 HS5.out.bel.size)
          clear g1 g2 g3 g4 g5 y0 y1 y2 y3 y4 y5 HS5 CF
          have z1 := HS6.out.zero.cell
          have z2 := HS6.out.zero.frozen
          simp only [zeroSe] at z1
          go_wp2
          exact bodyPost_ret (v := .tuple #[.agg #[.string R.1.client, .bool R.1.on, .bool R.1.clean, .slice r1 R.1.fl.length u1, .slice r2 R.1.qu.length u2, .int .i64 R.1.next], .slice xo R.2.length us]) (by simp [results, Tryd.results11, go_sem, World.cell?_setCell_same, z1]) rfl (FPost.put HS6.out G1.out G2.out G3.out G4.out _ _ _ _ _ _ rfl)
end Go.Proofs.YtnhcecgmcmcioaaDoor
