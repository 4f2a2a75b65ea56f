/-
  The reference's CheckPacket: a packet that has what only Connect or Connack name.
-/
import Derived.Test.YtnjdpibgfbbkcabGreatDoorRefPkCheck
namespace Go.Proofs.YtnjdpibgfbbkcabGreatDoor
open Go.RowKit Go.PlainAid

set_option maxHeartbeats 16000000 in
set_option maxRecDepth 100000 in
theorem rckP_one (p : Pk) (aa ac : Option Addr) (ca cc : Nat) (w : World) (hkB : kindB p.kind = true) (h : t1 p = true) :
    Calls Tryz.prog 25 #[pkV p aa ca ac cc] w fun e w' => e = .returned (.int .i64 1) ∧ Below w.heap.size w w' := by
  obtain ⟨k, d, r, c, s, q, i, kp, cd, cl, tp, pl, sa, cs⟩ := p
  simp only at hkB
  have KK := hide (kinds hkB)
  have G := hide h
  clear h
  simp only [pkV]
  have HB0 : Hid (Below w.heap.size w (w.alloc (.cells #[.int .i64 k, .bool d, .bool r, .bool c, .bool s, .int .i64 q, .int .i64 i, .int .i64 kp, .int .i64 cd, .string cl, .string tp, .string pl, .slice aa sa.length ca, .slice ac cs.length cc] 35)) ∧ (w.alloc (.cells #[.int .i64 k, .bool d, .bool r, .bool c, .bool s, .int .i64 q, .int .i64 i, .int .i64 kp, .int .i64 cd, .string cl, .string tp, .string pl, .slice aa sa.length ca, .slice ac cs.length cc] 35)).heap[w.heap.size]? = some (.cells #[.int .i64 k, .bool d, .bool r, .bool c, .bool s, .int .i64 q, .int .i64 i, .int .i64 kp, .int .i64 cd, .string cl, .string tp, .string pl, .slice aa sa.length ca, .slice ac cs.length cc] 35 (0, 0))) := ⟨(Below.refl _ _).alloc (Nat.le_refl _) _, Go.heap_alloc_new w _⟩
  go_enter Tryz.func25, Tryz.ntmps25
  go_upto_region 2 with fail
  revert HB0
  generalize w.alloc (.cells #[.int .i64 k, .bool d, .bool r, .bool c, .bool s, .int .i64 q, .int .i64 i, .int .i64 kp, .int .i64 cd, .string cl, .string tp, .string pl, .slice aa sa.length ca, .slice ac cs.length cc] 35) = W0
  intro HB0
  have x1 := fun o => Lib.cell_of_heap HB0.out.2 o
  go_cut [17] (fun z wr => z = .bool false ∧ wr = W0)
  case first =>
    as_aux_lemma =>
      have hk0 := hkB
      simp only [kindB, decide_eq_true_eq] at hk0
      by_cases h4 : 1 ≤ k ∧ k ≤ 4
      · go_wp2_with (go_at_call 21; refine (between_yes _ _ _ _ h4).mono ?_; rintro e w1 ⟨rfl, rfl⟩)
        go_meet
        case rel => exact ⟨rfl, rfl⟩
      · have h8 : 8 ≤ k ∧ k ≤ 14 := by omega
        go_wp2_with fail
        refine (between_no _ _ _ _ h4).mono ?_
        rintro e w1 ⟨rfl, rfl⟩
        go_wp2_with fail
        refine (between_yes _ _ _ _ h8).mono ?_
        rintro e w1 ⟨rfl, rfl⟩
        go_wp2_with fail
        go_meet
        case rel => exact ⟨rfl, rfl⟩
  case rest =>
    obtain ⟨rfl, hw⟩ := hcut
    subst hw
    clear hkB
    go_upto_region 4 with fail
    by_cases h1 : k = 1
    · subst h1
      cases s with
      | true =>
        go_wp2
        go_ret
        exact ⟨rfl, HB0.out.1⟩
      | false =>
        by_cases hcd : cd = 0
        · subst hcd
          exact absurd G.out (by simp [t1])
        · have hcde : (cd != 0) = true := by simp [hcd]
          clear hcd
          go_wp2
          go_ret
          exact ⟨rfl, HB0.out.1⟩
    · have h1e : (k != 1) = true := by simp [h1]
      have h1H := hide h1
      clear h1
      by_cases hcl : cl = ⟨#[]⟩
      · subst hcl
        cases c with
        | true =>
          go_wp2
          go_ret
          exact ⟨rfl, HB0.out.1⟩
        | false =>
          by_cases hkp : kp = 0
          · subst hkp
            by_cases h2 : k = 2
            · subst h2
              exact absurd G.out (by simp [t1])
            · have h2e : (k != 2) = true := by simp [h2]
              clear h2
              cases s with
              | true =>
                go_wp2
                go_ret
                exact ⟨rfl, HB0.out.1⟩
              | false =>
                by_cases hcd : cd = 0
                · subst hcd
                  exact absurd G.out (by simp [t1])
                · have hcde : (cd != 0) = true := by simp [hcd]
                  clear hcd
                  go_wp2
                  go_ret
                  exact ⟨rfl, HB0.out.1⟩
          · have hkpe : (kp != 0) = true := by simp [hkp]
            clear hkp
            go_wp2
            go_ret
            exact ⟨rfl, HB0.out.1⟩
      · have hcle := txt_no (l := []) hcl
        clear hcl
        go_wp2
        go_ret
        exact ⟨rfl, HB0.out.1⟩
end Go.Proofs.YtnjdpibgfbbkcabGreatDoor
/-
  The reference's CheckPacket: a packet that has what only Publish names.
-/
namespace Go.Proofs.YtnjdpibgfbbkcabGreatDoor
open Go.RowKit Go.PlainAid

set_option maxHeartbeats 16000000 in
set_option maxRecDepth 100000 in
theorem rckP_two (p : Pk) (aa ac : Option Addr) (ca cc : Nat) (w : World) (hkB : kindB p.kind = true) (h1 : t1 p = false) (h : t2 p = true) :
    Calls Tryz.prog 25 #[pkV p aa ca ac cc] w fun e w' => e = .returned (.int .i64 1) ∧ Below w.heap.size w w' := by
  obtain ⟨k, d, r, c, s, q, i, kp, cd, cl, tp, pl, sa, cs⟩ := p
  simp only at hkB
  have KK := hide (kinds hkB)
  have N1 := hide (t1_no h1)
  have G := hide h
  clear h h1
  simp only at N1
  simp only [pkV]
  have HB0 : Hid (Below w.heap.size w (w.alloc (.cells #[.int .i64 k, .bool d, .bool r, .bool c, .bool s, .int .i64 q, .int .i64 i, .int .i64 kp, .int .i64 cd, .string cl, .string tp, .string pl, .slice aa sa.length ca, .slice ac cs.length cc] 35)) ∧ (w.alloc (.cells #[.int .i64 k, .bool d, .bool r, .bool c, .bool s, .int .i64 q, .int .i64 i, .int .i64 kp, .int .i64 cd, .string cl, .string tp, .string pl, .slice aa sa.length ca, .slice ac cs.length cc] 35)).heap[w.heap.size]? = some (.cells #[.int .i64 k, .bool d, .bool r, .bool c, .bool s, .int .i64 q, .int .i64 i, .int .i64 kp, .int .i64 cd, .string cl, .string tp, .string pl, .slice aa sa.length ca, .slice ac cs.length cc] 35 (0, 0))) := ⟨(Below.refl _ _).alloc (Nat.le_refl _) _, Go.heap_alloc_new w _⟩
  go_enter Tryz.func25, Tryz.ntmps25
  go_upto_region 2 with fail
  revert HB0
  generalize w.alloc (.cells #[.int .i64 k, .bool d, .bool r, .bool c, .bool s, .int .i64 q, .int .i64 i, .int .i64 kp, .int .i64 cd, .string cl, .string tp, .string pl, .slice aa sa.length ca, .slice ac cs.length cc] 35) = W0
  intro HB0
  have x1 := fun o => Lib.cell_of_heap HB0.out.2 o
  go_cut [17] (fun z wr => z = .bool false ∧ wr = W0)
  case first =>
    as_aux_lemma =>
      have hk0 := hkB
      simp only [kindB, decide_eq_true_eq] at hk0
      by_cases h4 : 1 ≤ k ∧ k ≤ 4
      · go_wp2_with (go_at_call 21; refine (between_yes _ _ _ _ h4).mono ?_; rintro e w1 ⟨rfl, rfl⟩)
        go_meet
        case rel => exact ⟨rfl, rfl⟩
      · have h8 : 8 ≤ k ∧ k ≤ 14 := by omega
        go_wp2_with fail
        refine (between_no _ _ _ _ h4).mono ?_
        rintro e w1 ⟨rfl, rfl⟩
        go_wp2_with fail
        refine (between_yes _ _ _ _ h8).mono ?_
        rintro e w1 ⟨rfl, rfl⟩
        go_wp2_with fail
        go_meet
        case rel => exact ⟨rfl, rfl⟩
  case rest =>
    obtain ⟨rfl, hw⟩ := hcut
    subst hw
    clear hkB
    go_upto_region 4 with fail
    obtain ⟨W1, hW1⟩ : ∃ W, W = wc := ⟨_, rfl⟩
    subst hW1
    go_cut [46] (fun z wr => z = .bool false ∧ wr = W1)
    case first =>
      as_aux_lemma =>
        clear KK
        by_cases h1 : k = 1
        · subst h1
          obtain ⟨e1, e2⟩ := N1.out.2 (by decide)
          subst e1 e2
          go_wp2_with fail
          go_meet
          case rel => exact ⟨rfl, rfl⟩
        · obtain ⟨e1, e2, e3⟩ := N1.out.1 h1
          subst e1 e2 e3
          have h1e : (k != 1) = true := by simp [h1]
          by_cases h2 : k = 2
          · subst h2
            go_wp2_with fail
            go_meet
            case rel => exact ⟨rfl, rfl⟩
          · obtain ⟨e4, e5⟩ := N1.out.2 h2
            subst e4 e5
            have h2e : (k != 2) = true := by simp [h2]
            clear h1 h2
            go_wp2_with fail
            go_meet
            case rel => exact ⟨rfl, rfl⟩
    case rest =>
      obtain ⟨rfl, hw⟩ := hcut
      subst hw
      go_upto_region 6 with fail
      by_cases h3 : k = 3
      · subst h3
        exact absurd G.out (by simp [t2])
      · have h3e : (k != 3) = true := by simp [h3]
        clear h3
        cases d with
        | true =>
          go_wp2
          go_ret
          exact ⟨rfl, HB0.out.1⟩
        | false =>
          cases r with
          | true =>
            go_wp2
            go_ret
            exact ⟨rfl, HB0.out.1⟩
          | false =>
            by_cases hq : q = 0
            · subst hq
              by_cases htp : tp = ⟨#[]⟩
              · subst htp
                by_cases hpl : pl = ⟨#[]⟩
                · subst hpl
                  exact absurd G.out (by simp [t2])
                · have hple := txt_no (l := []) hpl
                  clear hpl
                  go_wp2
                  go_ret
                  exact ⟨rfl, HB0.out.1⟩
              · have htpe := txt_no (l := []) htp
                clear htp
                go_wp2
                go_ret
                exact ⟨rfl, HB0.out.1⟩
            · have hqe : (q != 0) = true := by simp [hq]
              clear hq
              go_wp2
              go_ret
              exact ⟨rfl, HB0.out.1⟩
end Go.Proofs.YtnjdpibgfbbkcabGreatDoor
