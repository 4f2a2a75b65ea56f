/-
  session.sender's fly: the walk.
-/
import Derived.Test.YtnhcecgmcmcioaaDoorSesFlies
namespace Go.Proofs.YtnhcecgmcmcioaaDoor
open Go.RowKit Go.PlainAid

theorem Qv.tail {N : Nat} {W : World} {va : Value} {g0 o0 cb : Nat} {f : Fl} {q : List Fl} {A : Option Addr} (h : Qv N W va (some ⟨g0, o0, none⟩) (f :: q)) (hc : q.length + 1 ≤ cb) (hA : (if cb = 1 then some (⟨g0, o0, none⟩ : Addr) else some ⟨g0, o0 + 3, none⟩) = A) : Qv N W va A q := by
  by_cases hq : q = []
  · exact .inl hq
  · have h1 : cb ≠ 1 := by have := List.length_pos_iff.2 hq; omega
    rw [if_neg h1] at hA
    rcases h with h | ⟨g, o, cur, ha, hN, hne, hg, hx⟩
    · cases h
    · injection ha with ha
      injection ha with e1 e2 _
      subst e1 e2
      refine .inr ⟨g0, o0 + 3, cur, hA.symm, hN, hne, hg, fun i hi => ?_⟩
      have := hx (i + 1) (by simpa using hi)
      simp only [List.getElem_cons_succ] at this
      rw [show o0 + 3 + i * 3 = o0 + (i + 1) * 3 by omega]
      exact this
theorem tail_at {g0 o0 cb : Nat} {A : Option Addr} (hA : (if cb = 1 then some (⟨g0, o0, none⟩ : Addr) else some ⟨g0, o0 + 3, none⟩) = A) {g o : Nat} (h : A = some ⟨g, o, none⟩) : g = g0 := by
  rw [← hA] at h
  split at h <;> (injection h with h; injection h with h _ _; exact h.symm)

set_option maxHeartbeats 8000000 in
set_option maxRecDepth 100000 in
theorem fly_any (N b : Nat) (s : Se) (aa : Option Addr) (ca : Nat) (ab : Option Addr) (cb : Nat) (ao : Option Addr) (cs : Nat) (L : List Pk) (w W : World) (hs : Sd N b s (.slice aa s.fl.length ca) ab cb (.slice ao L.length cs) L w W) (hl : s.fl.length ≤ 3) (hn : 1 ≤ s.next ∧ s.next ≤ 65535) (hL : L.length ≤ 1000000) (hqn : s.qu.length ≤ 1048576) (hz : ∀ f ∈ s.qu, f.topic.size ≤ 281474976710656 ∧ f.load.size ≤ 281474976710656) :
    Calls Tryd.prog 22 #[.pointer (some ⟨b, 0, none⟩)] W fun e W' => e = .returned (.tuple #[]) ∧ ∃ aa' ca' ab' cb' ao' cs', Sd N b (flyS 3 s L).1 (.slice aa' (flyS 3 s L).1.fl.length ca') ab' cb' (.slice ao' (flyS 3 s L).2.length cs') (flyS 3 s L).2 w W' := by
  generalize hR : flyS 3 s L = R
  have HR := hide hR
  have HS := hide hs
  have HZ := hide hz
  clear hR hs hz
  go_enter Tryd.func22, Tryd.ntmps22
  go_wp2
  go_loopg [2] 3 (fun g _ wr => ∃ (s' : Se) (L' : List Pk) (aa' : Option Addr) (ca' : Nat) (ab' : Option Addr) (cb' : Nat) (ao' : Option Addr) (cs' : Nat), Hid (Sd N b s' (.slice aa' s'.fl.length ca') ab' cb' (.slice ao' L'.length cs') L' w wr) ∧ Hid (flyS g s' L' = R) ∧ (s'.fl.length ≤ 3 ∧ 3 ≤ s'.fl.length + g ∧ L'.length + g ≤ L.length + 3 ∧ 1 ≤ s'.next ∧ s'.next ≤ 65535 ∧ s'.qu.length ≤ 1048576) ∧ Hid (∀ f ∈ s'.qu, f.topic.size ≤ 281474976710656 ∧ f.load.size ≤ 281474976710656))
  case atStart => exact ⟨s, L, aa, ca, ab, cb, ao, cs, HS, HR, ⟨hl, by omega, by omega, hn.1, hn.2, hqn⟩, HZ⟩
  case round =>
    obtain ⟨s', L', aa', ca', ab', cb', ao', cs', HS', HR', ⟨hl', hg', hL', hn1, hn2, hqn'⟩, HZ'⟩ := hrel
    clear HS HR HZ
    obtain ⟨cl, on, clean, fl, qu, nx⟩ := s'
    simp only at HS' hl' hg' hn1 hn2 hqn' HZ'
    have x1 : wr.cell? ⟨b, 1, none⟩ = some (.bool on) := HS'.out.box.cell 1
    have x3 : wr.cell? ⟨b, 3, none⟩ = some (.slice aa' fl.length ca') := HS'.out.box.cell 3
    have x4 : wr.cell? ⟨b, 4, none⟩ = some (.slice ab' qu.length cb') := HS'.out.box.cell 4
    by_cases hgo : on = true ∧ qu ≠ [] ∧ fl.length < 3
    · obtain ⟨rfl, hq, h3⟩ := hgo
      obtain ⟨f, q, rfl⟩ : ∃ f q, qu = f :: q := by cases qu with | nil => exact absurd rfl hq | cons f q => exact ⟨f, q, rfl⟩
      obtain ⟨g, rfl⟩ : ∃ g, gk = g + 1 := ⟨gk - 1, by omega⟩
      have HF : Hid (flyS g ⟨cl, true, clean, fl ++ [⟨frId fl 4 nx, f.topic, f.load⟩], q, nxt (frId fl 4 nx)⟩ (L' ++ [flP ⟨frId fl 4 nx, f.topic, f.load⟩ false]) = R) := (flyS_step (f := f) (q := q) rfl rfl h3).symm.trans HR'.out
      rcases HS'.out.qu with h0 | ⟨g0, o0, cur, rfl, hN0, hnn, hg0, hc0⟩
      · cases h0
      have q0 := (hc0 0 (by simp)).1
      have q1 := (hc0 0 (by simp)).2.1
      have q2 := (hc0 0 (by simp)).2.2
      simp only [Nat.zero_mul, Nat.add_zero, List.getElem_cons_zero] at q0 q1 q2
      have hcb : q.length + 1 ≤ cb' := HS'.out.ge
      have hql : (f :: q).length = q.length + 1 := rfl
      rw [hql] at x4 hqn'
      have h3i : (fl.length : Int) < 3 := by omega
      have hqi : (0 : Int) < (q.length + 1 : Nat) := by omega
      have hcbi : ((q.length + 1 : Nat) : Int) ≤ cb' := by omega
      have HSF := hide (Sf.new (f := f) HS'.out)
      obtain ⟨A, hA⟩ : ∃ A, (if cb' = 1 then some (⟨g0, o0, none⟩ : Addr) else some ⟨g0, o0 + 3, none⟩) = A := ⟨_, rfl⟩
      go_upto_region 2 with fail
      revert HSF
      generalize wr.alloc (.cells #[.int .i64 f.id, .string f.topic, .string f.load] 46) = W1
      generalize wr.heap.size = c at *
      intro HSF
      have y4 : W1.cell? ⟨b, 4, none⟩ = some (.slice (some ⟨g0, o0, none⟩) (q.length + 1) cb') := HSF.out.sd.box.cell 4
      have yf := HSF.out.sd.box.frozen
      clear x1 x3 x4 q0 q1 q2
      go_upto_region 3 with fail
      have HSQ := hide (HSF.out.putQu q A (cb' - 1) (HSF.out.sd.qu.tail hcb hA) (fun g o ha _ => by have := tail_at hA ha; subst this; exact HSF.out.nq g o0 rfl (by simp)) (by omega))
      simp only at HSQ
      revert HSQ
      generalize W1.setCell ⟨b, 4, none⟩ (.slice A q.length (cb' - 1)) = W2
      intro HSQ
      have CI : Hid (∀ V, Sf N b ⟨cl, true, clean, fl, q, nx⟩ (.slice aa' fl.length ca') A (cb' - 1) (.slice ao' L'.length cs') L' w c f V → Calls Tryd.prog 47 #[.pointer (some ⟨b, 0, none⟩)] V fun e V' => e = .returned (.int .i64 (frId fl 4 nx)) ∧ Sf N b ⟨cl, true, clean, fl, q, nx⟩ (.slice aa' fl.length ca') A (cb' - 1) (.slice ao' L'.length cs') L' w c f V') := fun V h => by
        refine (freeId_any N b _ aa' ca' A (cb' - 1) _ L' w V h.sd (by simp only; omega) ⟨hn1, hn2⟩).mono ?_
        rintro e V' ⟨h1, _, h3⟩
        exact ⟨h1, h.step h3⟩
      have hR1 := (frId_free (show fl.length ≤ 3 by omega) ⟨hn1, hn2⟩).2
      generalize frId fl 4 nx = R1 at *
      clear HSF y4 yf hA HS' HR' hc0 hg0 hnn hN0
      go_upto_region 4 with (go_at_call 47; refine (CI.out _ HSQ.out).mono ?_; rintro e w2 ⟨rfl, hs2⟩; have xc := hs2.cell 0; have xf := hs2.frozen 0)
      have HS3 := hide (hs2.putId R1)
      revert HS3
      generalize w2.setCell ⟨c, 0, none⟩ (.int .i64 R1) = W3
      intro HS3
      clear hs2 xc xf CI HSQ
      have x3 : W3.cell? ⟨c, 0, none⟩ = some (.int .i64 R1) := HS3.out.cell 0
      have y3 := HS3.out.sd.box.frozen
      have CB := hide (fun V => behind_any R1 V (by omega))
      have hN1 := nxt_in hR1
      generalize nxt R1 = R2 at *
      go_upto_region 5 with (go_at_call 48; refine (CB.out _).mono ?_; rintro e w4 ⟨rfl, he⟩; subst he; have x5 := HS3.out.sd.box.cell 5; have y5 := HS3.out.sd.box.frozen 5)
      have HS4 := hide (HS3.out.putNext R2)
      simp only at HS4
      revert HS4
      generalize w4.setCell ⟨b, 5, none⟩ (.int .i64 R2) = W4
      intro HS4
      clear HS3 x3 y3 x5 y5 CB
      have x3 : W4.cell? ⟨b, 3, none⟩ = some (.slice aa' fl.length ca') := HS4.out.sd.box.cell 3
      have f3 : W4.frozen? ⟨b, 3, none⟩ = false := HS4.out.sd.box.frozen 3
      have y1 := HS4.out.cell
      have xa3 : (W4.alloc (.cells #[.int .i64 R1, .string f.topic, .string f.load] 46)).cell? ⟨b, 3, none⟩ = some (.slice aa' fl.length ca') := (HS4.out.sd.alloc _).box.cell 3
      have hfl : fl.length ≤ 1048576 := by omega
      go_region_law (refine stepFl (by rfl) _ _ (by rfl) fl (by rfl) _ (by rfl) ((HS4.out.sd.drew).alloc _).fl (Nat.le_trans HS4.out.sd.le (Nat.le_of_lt ((HS4.out.sd.drew).alloc _).box.lt)) ⟨R1, f.topic, f.load⟩ (by exact Go.heap_alloc_new _ _) hfl ?_; intro gn cap W' hown hgrow hat hcap; have k3 : W'.cell? ⟨b, 3, none⟩ = some (.slice aa' fl.length ca') := (((HS4.out.sd.drew).alloc _).flMore hgrow).1.cell 3; have kf3 : W'.frozen? ⟨b, 3, none⟩ = false := (((HS4.out.sd.drew).alloc _).flMore hgrow).1.frozen 3)
      all_goals
        have HS5 := hide ((HS4.out.step (W' := W4.drew.alloc (.cells #[.int .i64 R1, .string f.topic, .string f.load] 46)) ((Below.drew (Below.refl _ _)).alloc (Nat.le_refl _) _)).putFl hgrow (n := fl.length + 1) (by simp) hown hat)
        simp only at HS5
        clear hown hgrow hat k3 kf3 x3 f3 xa3 y1 HS4
        revert HS5
        generalize W'.setCell ⟨b, 3, none⟩ (.slice (some ⟨gn, 0, none⟩) (fl.length + 1) cap) = W6
        intro HS5
        have y1 := HS5.out.cell
        have CS : Hid (∀ V, Sd N b ⟨cl, true, clean, fl ++ [⟨R1, f.topic, f.load⟩], q, R2⟩ (.slice (some ⟨gn, 0, none⟩) (fl.length + 1) cap) A (cb' - 1) (.slice ao' L'.length cs') L' w V → Calls Tryd.prog 28 #[.pointer (some ⟨b, 0, none⟩), .agg #[.int .i64 R1, .string f.topic, .string f.load], .bool false] V fun e V' => e = .returned (.tuple #[]) ∧ ∃ a' c', Sd N b ⟨cl, true, clean, fl ++ [⟨R1, f.topic, f.load⟩], q, R2⟩ (.slice (some ⟨gn, 0, none⟩) (fl.length + 1) cap) A (cb' - 1) (.slice a' (L'.length + 1) c') (L' ++ [flP ⟨R1, f.topic, f.load⟩ false]) w V') := fun V h =>
          sendFlight_any N b _ _ A (cb' - 1) ao' cs' L' w V ⟨R1, f.topic, f.load⟩ false h (by omega) (HZ'.out f (by simp)).1 (HZ'.out f (by simp)).2
        go_wp2_with fail
        refine (CS.out _ HS5.out.sd).mono ?_
        rintro e w7 ⟨rfl, a7, c7, hs7⟩
        have HS7 := hide hs7
        have HZ7 : Hid (∀ f ∈ q, f.topic.size ≤ 281474976710656 ∧ f.load.size ≤ 281474976710656) := fun x hx => HZ'.out x (List.mem_cons_of_mem _ hx)
        clear hs7 CS HS5 y1 HZ'
        go_wp2
        go_roundg g
        case measure => omega
        case rel => exact ⟨⟨cl, true, clean, fl ++ [⟨R1, f.topic, f.load⟩], q, R2⟩, L' ++ [flP ⟨R1, f.topic, f.load⟩ false], some ⟨gn, 0, none⟩, cap, A, cb' - 1, a7, c7, by rw [List.length_append, List.length_append]; exact HS7.out, HF, ⟨by simp; omega, by simp; omega, by simp; omega, hN1.1, hN1.2, by simp only; omega⟩, HZ7⟩
    · have HQ := hide (flyS_end (k := gk) (s := ⟨cl, on, clean, fl, qu, nx⟩) (L := L') (by
        simp only
        by_cases h1 : on = true
        · by_cases h2 : qu = []
          · exact .inr (.inl h2)
          · exact .inr (.inr fun h3 => hgo ⟨h1, h2, h3⟩)
        · exact .inl (by simpa using h1)))
      have HR1 := hide (HQ.out.symm.trans HR'.out)
      clear HQ HR' HZ'
      cases on with
      | false =>
        clear x3 x4 hgo
        go_wp2
        go_end0
        exact ⟨rfl, by rw [← HR1.out]; exact ⟨aa', ca', ab', cb', ao', cs', HS'.out⟩⟩
      | true =>
        by_cases h2 : qu = []
        · subst h2
          clear x3 hgo
          go_wp2
          go_end0
          exact ⟨rfl, by rw [← HR1.out]; exact ⟨aa', ca', ab', cb', ao', cs', HS'.out⟩⟩
        · have h3 : ¬ fl.length < 3 := fun h3 => hgo ⟨rfl, h2, h3⟩
          have h3i : ¬ (fl.length : Int) < 3 := by omega
          have h2i : (0 : Int) < qu.length := by have := List.length_pos_iff.2 h2; omega
          clear hgo h2
          go_wp2
          go_end0
          exact ⟨rfl, by rw [← HR1.out]; exact ⟨aa', ca', ab', cb', ao', cs', HS'.out⟩⟩
end Go.Proofs.YtnhcecgmcmcioaaDoor
