/-
  SessionTells: the walk through the law, by the contracts of what it calls.
-/
import Derived.Test.YtnhcecgmcmcioaaDoorSesTellsBase
namespace Go.Proofs.YtnhcecgmcmcioaaDoor
open Go.RowKit Go.PlainAid

theorem sendOf_any (N : Nat) (s : Se) (aa ab : Option Addr) (ca cb : Nat) (t p : ByteArray) (q : Int) (w : World) (h1 : FlsB N w aa s.fl) (h2 : FlsB N w ab s.qu) (hq : s.qu.length ≤ cb) (hN : N ≤ w.heap.size) (hk : chkS s = 0) (h01 : q = 0 ∨ q = 1) :
    Calls Tryd.prog 11 #[seV s aa ca ab cb, .string t, .string p, .int .i64 q] w (FPost N (sendS s t p q) w) := by
  obtain ⟨g1, g2, g3, g4, g5⟩ := chkS_small hk
  rcases h01 with rfl | rfl
  · exact sendOf_0 N s aa ab ca cb t p w h1 h2 hq hN
  · exact sendOf_1 N s aa ab ca cb t p w h1 h2 hq hN g2 g5 g3 (chkS_settled hk)
theorem okp_one (p : Pk) (h : p.asks = [] ∧ p.codes = []) : Okp [p] := ⟨(fun x hx => by rw [List.mem_singleton] at hx; subst hx; exact h), by simp⟩
theorem okp_fly (s : Se) : Okp (flyS 3 s []).2 := by
  obtain ⟨h1, h2⟩ := flyS_sent 3 s [] (fun p hp => by cases hp)
  exact ⟨h1, by simp only [List.length_nil] at h2; omega⟩
theorem okp_res (E : Int) (R : Se × List Pk) (h : Okp R.2) : Okp (resS E R).2 := by
  unfold resS
  split
  · exact okp_nil
  · exact h
theorem okp_send (s : Se) (t p : ByteArray) (q : Int) : Okp (sendR s t p q).2 := by
  refine okp_res _ _ ?_
  unfold sendS
  split
  · exact okp_fly _
  · split
    · exact okp_one _ ⟨rfl, rfl⟩
    · exact okp_nil
theorem okp_land (s : Se) (id : Int) : Okp (landR s id).2 := okp_res _ _ (okp_fly _)
theorem okp_come {s : Se} (h : chkS s = 0 → s.fl.length ≤ 3) : Okp (comeR s).2 := by
  unfold comeR resS
  by_cases hc : chkS s = 0
  · rw [if_neg (by simp [hc])]
    obtain ⟨h1, h2⟩ := flyS_sent 3 { s with on := true } (s.fl.map (flP · true)) (fun p hp => by
      obtain ⟨f, _, rfl⟩ := List.mem_map.1 hp
      exact ⟨rfl, rfl⟩)
    exact ⟨h1, by have := h hc; simp only [List.length_map] at h2; omega⟩
  · rw [if_pos hc]; exact okp_nil
-- GREAT
theorem flyS_lens : ∀ (k : Nat) (s : Se) (L : List Pk), (flyS k s L).1.fl.length ≤ s.fl.length + k ∧ (flyS k s L).1.qu.length ≤ s.qu.length := by
  intro k
  induction k with
  | zero => intro s L; exact ⟨Nat.le_refl _, Nat.le_refl _⟩
  | succ k ih =>
    intro s L
    rw [flyS]
    cases hq : s.qu with
    | nil => exact ⟨by show s.fl.length ≤ s.fl.length + (k + 1); omega, by simp [hq]⟩
    | cons f q =>
      simp only
      by_cases hc : s.on = true ∧ s.fl.length < 3
      · rw [if_pos hc]
        obtain ⟨i1, i2⟩ := ih ⟨s.client, s.on, s.clean, s.fl ++ [⟨frId s.fl 4 s.next, f.topic, f.load⟩], q, nxt (frId s.fl 4 s.next)⟩ (L ++ [flP ⟨frId s.fl 4 s.next, f.topic, f.load⟩ false])
        simp only [List.length_append, List.length_cons, List.length_nil] at i1 i2 ⊢
        omega
      · rw [if_neg hc]; exact ⟨by show s.fl.length ≤ s.fl.length + (k + 1); omega, by simp [hq]⟩
/-- its rows are short -/
def Sml (s : Se) : Prop := s.fl.length ≤ 1048576 ∧ s.qu.length ≤ 1048576
theorem sml_res {s : Se} {E : Int} {R : Se × List Pk} (hE : E = 0 → chkS s = 0) (h : chkS s = 0 → Sml R.1) : Sml (resS E R).1 := by
  unfold resS
  by_cases h0 : E ≠ 0
  · rw [if_pos h0]; simp [Sml, zeroSe]
  · rw [if_neg h0]; exact h (hE (by simpa using h0))
theorem sml_fly {s : Se} (h1 : s.fl.length ≤ 3) (h2 : s.qu.length ≤ 7) (L : List Pk) : Sml (flyS 3 s L).1 := by
  obtain ⟨i1, i2⟩ := flyS_lens 3 s L
  exact ⟨by omega, by omega⟩
theorem sesE_chk {s : Se} {a : Int} (h : sesE s a = 0) : chkS s = 0 := by
  unfold sesE at h
  by_cases h0 : chkS s ≠ 0
  · rw [if_pos h0] at h; exact absurd h h0
  · simpa using h0
theorem sml_send (s : Se) (t p : ByteArray) (q : Int) : Sml (sendR s t p q).1 := by
  refine sml_res (s := s) (fun h => sesE_chk h) fun h => ?_
  obtain ⟨g1, g2, g3, g4, g5⟩ := chkS_small h
  obtain ⟨p1, p2, p3, p4, p5, p6⟩ := quS_parts s t p
  unfold sendS
  split
  · refine sml_fly (by rw [p1]; exact g2) ?_ _
    rcases p6 with e | e
    · rw [e]; omega
    · rw [e]; simp; omega
  · split
    · exact ⟨by simp only; omega, by simp only; omega⟩
    · exact ⟨by simp only; omega, by simp only; omega⟩
theorem sml_land (s : Se) (id : Int) : Sml (landR s id).1 := by
  refine sml_res (s := s) (fun h => h) fun h => ?_
  obtain ⟨g1, g2, g3, g4, g5⟩ := chkS_small h
  exact sml_fly (Nat.le_trans (offF_len id s.fl) g2) (by show s.qu.length ≤ 7; omega) _
theorem sml_come (s : Se) : Sml (comeR s).1 := by
  refine sml_res (s := s) (fun h => h) fun h => ?_
  obtain ⟨g1, g2, g3, g4, g5⟩ := chkS_small h
  exact sml_fly (s := { s with on := true }) g2 (by show s.qu.length ≤ 7; omega) _
theorem sml_go (s : Se) : Sml (goR s) := by
  refine sml_res (s := s) (R := (goS s, [])) (fun h => h) fun h => ?_
  obtain ⟨g1, g2, g3, g4, g5⟩ := chkS_small h
  unfold goS
  split
  · exact ⟨by simp, by simp⟩
  · exact ⟨by simp only; omega, by simp only; omega⟩
theorem resS_0 {E : Int} {R : Se × List Pk} (h : E = 0) : resS E R = R := if_neg (by simp [h])
theorem resS_1 {E : Int} {R : Se × List Pk} (h : E ≠ 0) : resS E R = (zeroSe, []) := if_pos h

set_option maxHeartbeats 40000000 in
set_option maxRecDepth 100000 in
theorem sessionTells_walk (s : Se) (aa ab : Option Addr) (ca cb : Nat) (t p : ByteArray) (q id : Int) (w : World) (hs : SeIn w s aa ab) (hca : s.fl.length ≤ ca) (hcb : s.qu.length ≤ cb) (h1 : s.client.size ≤ maxLen) (hz : ∀ f, f ∈ s.fl ∨ f ∈ s.qu → f.topic.size ≤ 1048576) (ht : t.size ≤ 1048576) (hm : Max w) :
    Calls Tryd.prog 3 #[seV s aa ca ab cb, .string t, .string p, .int .i64 q, .int .i64 id] w fun e w' => e = .returned (.bool true) ∧ Below w.heap.size w w' := by
  have CA : Hid (∀ V, Below w.heap.size w V → SeIn V s aa ab → Calls Tryd.prog 5 #[.agg #[.string s.client, .bool s.on, .bool s.clean, .slice aa s.fl.length ca, .slice ab s.qu.length cb, .int .i64 s.next], .string t, .string p, .int .i64 q] V (SPost (sendE s t p q) (sendR s t p q) V)) := fun V h hv => send_any s aa ab ca cb t p q V hv hca (hm.below h)
  have CB : Hid (∀ V, Below w.heap.size w V → SeIn V s aa ab → Calls Tryd.prog 6 #[.agg #[.string s.client, .bool s.on, .bool s.clean, .slice aa s.fl.length ca, .slice ab s.qu.length cb, .int .i64 s.next], .int .i64 id] V (SPost (chkS s) (landR s id) V)) := fun V h hv => landed_any s aa ab ca cb id V hv hca (hm.below h)
  have CC : Hid (∀ V, Below w.heap.size w V → SeIn V s aa ab → Calls Tryd.prog 7 #[.agg #[.string s.client, .bool s.on, .bool s.clean, .slice aa s.fl.length ca, .slice ab s.qu.length cb, .int .i64 s.next]] V (SPost (chkS s) (comeR s) V)) := fun V h hv => come_any s aa ab ca cb V hv hca (hm.below h)
  have CD : Hid (∀ V, Below w.heap.size w V → SeIn V s aa ab → Calls Tryd.prog 8 #[.agg #[.string s.client, .bool s.on, .bool s.clean, .slice aa s.fl.length ca, .slice ab s.qu.length cb, .int .i64 s.next]] V fun e w' => ∃ a1 c1 a2 c2, e = .returned (.tuple #[.agg #[.string (goR s).client, .bool (goR s).on, .bool (goR s).clean, .slice a1 (goR s).fl.length c1, .slice a2 (goR s).qu.length c2, .int .i64 (goR s).next], .int .i64 (chkS s)]) ∧ OutS V.heap.size (goR s, []) a1 c1 a2 c2 none 0 w' ∧ Below V.heap.size V w') := fun V h hv => go_any s aa ab ca cb V hv hca (hm.below h)
  have CK : Hid (∀ V, Below w.heap.size w V → SeIn V s aa ab → Calls Tryd.prog 16 #[.agg #[.string s.client, .bool s.on, .bool s.clean, .slice aa s.fl.length ca, .slice ab s.qu.length cb, .int .i64 s.next]] V fun e w' => e = .returned (.int .i64 (chkS s)) ∧ Below V.heap.size V w') := fun V h hv => scheck_any s aa ab ca cb V hv hca (hm.below h)
  have CR : Hid (∀ V, SeIn V s aa ab → Calls Tryd.prog 9 #[.agg #[.string s.client, .bool s.on, .bool s.clean, .slice aa s.fl.length ca, .slice ab s.qu.length cb, .int .i64 s.next]] V fun e w' => e = .returned (.int .i64 (chkS s)) ∧ Below V.heap.size V w') := fun V hv => checkSession_any s aa ab ca cb V hv h1 hz
  have CT : Hid (∀ V, Calls Tryd.prog 10 #[.string t, .bool false] V fun e w' => e = .returned (.int .i64 (chk nameF t)) ∧ Below V.heap.size V w') := fun V => checkTopic_any t false V ht
  have C0 : Hid (∀ V, Below w.heap.size w V → Calls Tryd.prog 15 #[] V fun e w' => e = .returned (.bool true) ∧ Below V.heap.size V w') := fun V h => sessionBegun_yes V (hm.below h)
  have XA : Hid (sendE s t p q = 0 → ∀ V, w.heap.size ≤ V.heap.size → FlsB w.heap.size V aa s.fl → FlsB w.heap.size V ab s.qu → Calls Tryd.prog 11 #[.agg #[.string s.client, .bool s.on, .bool s.clean, .slice aa s.fl.length ca, .slice ab s.qu.length cb, .int .i64 s.next], .string t, .string p, .int .i64 q] V (FPost w.heap.size (sendR s t p q) V)) := fun h V hV f1 f2 => by
    have hk := sesE_chk h
    have ha : askedE t p q = 0 := by unfold sendE sesE at h; rwa [if_neg (by simp [hk])] at h
    have := sendOf_any w.heap.size s aa ab ca cb t p q V f1 f2 hcb hV hk (askedE_small ha).2.2
    rw [show sendR s t p q = sendS s t p q from resS_0 h]
    exact this
  have XB : Hid (chkS s = 0 → ∀ V, w.heap.size ≤ V.heap.size → FlsB w.heap.size V aa s.fl → FlsB w.heap.size V ab s.qu → Calls Tryd.prog 12 #[.agg #[.string s.client, .bool s.on, .bool s.clean, .slice aa s.fl.length ca, .slice ab s.qu.length cb, .int .i64 s.next], .int .i64 id] V (FPost w.heap.size (landR s id) V)) := fun h V hV f1 f2 => by
    obtain ⟨g1, g2, g3, g4, g5⟩ := chkS_small h
    rw [show landR s id = landS id s from resS_0 h]
    exact landedOf_any w.heap.size s aa ab ca cb id V f1 f2 hcb hV g2 g5 (by omega)
  have XC : Hid (chkS s = 0 → ∀ V, w.heap.size ≤ V.heap.size → FlsB w.heap.size V aa s.fl → FlsB w.heap.size V ab s.qu → Calls Tryd.prog 13 #[.agg #[.string s.client, .bool s.on, .bool s.clean, .slice aa s.fl.length ca, .slice ab s.qu.length cb, .int .i64 s.next]] V (FPost w.heap.size (comeR s) V)) := fun h V hV f1 f2 => by
    obtain ⟨g1, g2, g3, g4, g5⟩ := chkS_small h
    rw [show comeR s = flyS 3 { s with on := true } (s.fl.map (flP · true)) from resS_0 h]
    exact comeOf_any w.heap.size s aa ab ca cb V f1 f2 hcb hV g2 g5 (by omega) (by have := (flyS_sent 3 { s with on := true } [] (fun p hp => by cases hp)).2; simpa using this)
  have XD : Hid (chkS s = 0 → ∀ V, w.heap.size ≤ V.heap.size → FlsB w.heap.size V aa s.fl → FlsB w.heap.size V ab s.qu → Calls Tryd.prog 14 #[.agg #[.string s.client, .bool s.on, .bool s.clean, .slice aa s.fl.length ca, .slice ab s.qu.length cb, .int .i64 s.next]] V (GPost w.heap.size (goR s) V)) := fun h V hV f1 f2 => by
    rw [show goR s = goS s from congrArg Prod.fst (resS_0 h)]
    exact goOf_any w.heap.size s aa ab ca cb V f1 f2 hcb hV
  have OA := hide (And.intro (okp_send s t p q) (sml_send s t p q))
  have OB := hide (And.intro (okp_land s id) (sml_land s id))
  have OC := hide (And.intro (okp_come (s := s) fun h => (chkS_small h).2.1) (sml_come s))
  have OD := hide (sml_go s)
  have EA : Hid (sendE s t p q ≠ 0 → sendR s t p q = (zeroSe, [])) := fun h => resS_1 h
  have EB : Hid (chkS s ≠ 0 → landR s id = (zeroSe, [])) := fun h => resS_1 h
  have EC : Hid (chkS s ≠ 0 → comeR s = (zeroSe, [])) := fun h => resS_1 h
  have ED : Hid (chkS s ≠ 0 → goR s = zeroSe) := fun h => congrArg Prod.fst (resS_1 h)
  have HEW : Hid (sendE s t p q = if chkS s ≠ 0 then chkS s else if chk nameF t ≠ 0 then chk nameF t else if 200 < p.size then 2 else if q = 0 ∨ q = 1 then 0 else 3) := by
    refine hide ?_
    unfold sendE sesE askedE toldE
    by_cases a1 : chkS s ≠ 0
    · rw [if_pos a1, if_pos a1]
    · rw [if_neg a1, if_neg a1]
      by_cases a2 : chk nameF t ≠ 0
      · rw [if_pos a2, if_pos a2, if_pos a2]
      · rw [if_neg a2, if_neg a2]
        by_cases a3 : 200 < p.size
        · rw [if_pos a3, if_pos (by decide), if_pos a3]
        · rw [if_neg a3, if_neg (by decide), if_neg a3]
  have HS0 : Hid (Rt w.heap.size w.heap.size (s, []) aa ca ab cb none 0 (w.alloc (.cells #[.string s.client, .bool s.on, .bool s.clean, .slice aa s.fl.length ca, .slice ab s.qu.length cb, .int .i64 s.next] 24))) := Rt.new (R := (s, [])) hs.1.flsB hs.2.flsB (Nat.le_refl _) (World.ownsRow_nil _ w.heap.size _ _) (Nat.le_refl _)
  have HB0 := hide ((Below.refl w.heap.size w).alloc (Nat.le_refl _) (.cells #[.string s.client, .bool s.on, .bool s.clean, .slice aa s.fl.length ca, .slice ab s.qu.length cb, .int .i64 s.next] 24))
  clear hs hca hcb h1 hz ht hm
  generalize sendE s t p q = EW at *
  generalize sendR s t p q = RA at *
  generalize landR s id = RB at *
  generalize comeR s = RC at *
  generalize goR s = RD at *
  generalize chkS s = EV at *
  generalize chk nameF t = EN at *
  simp only [seV]
  go_enter Tryd.func3, Tryd.ntmps3
  go_upto_region 1 with fail
  revert HS0 HB0
  generalize w.alloc (.cells #[.string s.client, .bool s.on, .bool s.clean, .slice aa s.fl.length ca, .slice ab s.qu.length cb, .int .i64 s.next] 24) = W0
  intro HS0 HB0
  have x1 := HS0.out.box.cell
  go_wp2_with fail
  refine (CA.out _ HB0.out HS0.out.inn).mono ?_
  rintro e w1 ⟨a1, c1, d1, e1, o1, n1, rfl, ho, hb⟩
  have hsz := HB0.out.size
  have HO := hide ho
  have HS0 := hide (HS0.out.step hb)
  have HB0 := hide (below_step HB0.out hb)
  clear ho hb x1 CA
  go_upto_region 2 with fail
  have hal : Below w1.heap.size w1 (w1.alloc (.cells #[.string RA.1.client, .bool RA.1.on, .bool RA.1.clean, .slice a1 RA.1.fl.length c1, .slice d1 RA.1.qu.length e1, .int .i64 RA.1.next] 24)) := (Below.refl _ w1).alloc (Nat.le_refl _) _
  have HS0 := hide (HS0.out.step hal)
  have H1 : Hid (Rt w.heap.size w1.heap.size RA a1 c1 d1 e1 o1 n1 (w1.alloc (.cells #[.string RA.1.client, .bool RA.1.on, .bool RA.1.clean, .slice a1 RA.1.fl.length c1, .slice d1 RA.1.qu.length e1, .int .i64 RA.1.next] 24))) := Rt.new (R := RA) HO.out.fl.flsB HO.out.qu.flsB hsz HO.out.sent HB0.out.size
  have HB0 := hide (below_step HB0.out hal)
  clear hal HO hsz
  revert HS0 H1 HB0
  generalize w1.alloc (.cells #[.string RA.1.client, .bool RA.1.on, .bool RA.1.clean, .slice a1 RA.1.fl.length c1, .slice d1 RA.1.qu.length e1, .int .i64 RA.1.next] 24) = W1
  generalize w1.heap.size = b1 at *
  intro HS0 H1 HB0
  have x1 := HS0.out.box.cell
  go_wp2_with fail
  refine (CB.out _ HB0.out HS0.out.inn).mono ?_
  rintro e w2 ⟨a2, c2, d2, e2, o2, n2, rfl, ho, hb⟩
  have hsz := HB0.out.size
  have HO := hide ho
  have HS0 := hide (HS0.out.step hb)
  have H1 := hide (H1.out.step hb)
  have HB0 := hide (below_step HB0.out hb)
  clear ho hb x1 CB
  go_upto_region 3 with fail
  have hal : Below w2.heap.size w2 (w2.alloc (.cells #[.string RB.1.client, .bool RB.1.on, .bool RB.1.clean, .slice a2 RB.1.fl.length c2, .slice d2 RB.1.qu.length e2, .int .i64 RB.1.next] 24)) := (Below.refl _ w2).alloc (Nat.le_refl _) _
  have HS0 := hide (HS0.out.step hal)
  have H1 := hide (H1.out.step hal)
  have H2 : Hid (Rt w.heap.size w2.heap.size RB a2 c2 d2 e2 o2 n2 (w2.alloc (.cells #[.string RB.1.client, .bool RB.1.on, .bool RB.1.clean, .slice a2 RB.1.fl.length c2, .slice d2 RB.1.qu.length e2, .int .i64 RB.1.next] 24))) := Rt.new (R := RB) HO.out.fl.flsB HO.out.qu.flsB hsz HO.out.sent HB0.out.size
  have HB0 := hide (below_step HB0.out hal)
  clear hal HO hsz
  revert HS0 H1 H2 HB0
  generalize w2.alloc (.cells #[.string RB.1.client, .bool RB.1.on, .bool RB.1.clean, .slice a2 RB.1.fl.length c2, .slice d2 RB.1.qu.length e2, .int .i64 RB.1.next] 24) = W2
  generalize w2.heap.size = b2 at *
  intro HS0 H1 H2 HB0
  have x1 := HS0.out.box.cell
  go_wp2_with fail
  refine (CC.out _ HB0.out HS0.out.inn).mono ?_
  rintro e w3 ⟨a3, c3, d3, e3, o3, n3, rfl, ho, hb⟩
  have hsz := HB0.out.size
  have HO := hide ho
  have HS0 := hide (HS0.out.step hb)
  have H1 := hide (H1.out.step hb)
  have H2 := hide (H2.out.step hb)
  have HB0 := hide (below_step HB0.out hb)
  clear ho hb x1 CC
  go_upto_region 4 with fail
  have hal : Below w3.heap.size w3 (w3.alloc (.cells #[.string RC.1.client, .bool RC.1.on, .bool RC.1.clean, .slice a3 RC.1.fl.length c3, .slice d3 RC.1.qu.length e3, .int .i64 RC.1.next] 24)) := (Below.refl _ w3).alloc (Nat.le_refl _) _
  have HS0 := hide (HS0.out.step hal)
  have H1 := hide (H1.out.step hal)
  have H2 := hide (H2.out.step hal)
  have H3 : Hid (Rt w.heap.size w3.heap.size RC a3 c3 d3 e3 o3 n3 (w3.alloc (.cells #[.string RC.1.client, .bool RC.1.on, .bool RC.1.clean, .slice a3 RC.1.fl.length c3, .slice d3 RC.1.qu.length e3, .int .i64 RC.1.next] 24))) := Rt.new (R := RC) HO.out.fl.flsB HO.out.qu.flsB hsz HO.out.sent HB0.out.size
  have HB0 := hide (below_step HB0.out hal)
  clear hal HO hsz
  revert HS0 H1 H2 H3 HB0
  generalize w3.alloc (.cells #[.string RC.1.client, .bool RC.1.on, .bool RC.1.clean, .slice a3 RC.1.fl.length c3, .slice d3 RC.1.qu.length e3, .int .i64 RC.1.next] 24) = W3
  generalize w3.heap.size = b3 at *
  intro HS0 H1 H2 H3 HB0
  have x1 := HS0.out.box.cell
  go_wp2_with fail
  refine (CD.out _ HB0.out HS0.out.inn).mono ?_
  rintro e w4 ⟨a4, c4, d4, e4, rfl, ho, hb⟩
  have hsz := HB0.out.size
  have HO := hide ho
  have HS0 := hide (HS0.out.step hb)
  have H1 := hide (H1.out.step hb)
  have H2 := hide (H2.out.step hb)
  have H3 := hide (H3.out.step hb)
  have HB0 := hide (below_step HB0.out hb)
  clear ho hb x1 CD
  go_upto_region 5 with fail
  have hal : Below w4.heap.size w4 (w4.alloc (.cells #[.string RD.client, .bool RD.on, .bool RD.clean, .slice a4 RD.fl.length c4, .slice d4 RD.qu.length e4, .int .i64 RD.next] 24)) := (Below.refl _ w4).alloc (Nat.le_refl _) _
  have HS0 := hide (HS0.out.step hal)
  have H1 := hide (H1.out.step hal)
  have H2 := hide (H2.out.step hal)
  have H3 := hide (H3.out.step hal)
  have H4 : Hid (Rt w.heap.size w4.heap.size (RD, []) a4 c4 d4 e4 none 0 (w4.alloc (.cells #[.string RD.client, .bool RD.on, .bool RD.clean, .slice a4 RD.fl.length c4, .slice d4 RD.qu.length e4, .int .i64 RD.next] 24))) := Rt.new (R := (RD, [])) HO.out.fl.flsB HO.out.qu.flsB hsz HO.out.sent HB0.out.size
  have HB0 := hide (below_step HB0.out hal)
  clear hal HO hsz
  revert HS0 H1 H2 H3 H4 HB0
  generalize w4.alloc (.cells #[.string RD.client, .bool RD.on, .bool RD.clean, .slice a4 RD.fl.length c4, .slice d4 RD.qu.length e4, .int .i64 RD.next] 24) = W4
  generalize w4.heap.size = b4 at *
  intro HS0 H1 H2 H3 H4 HB0
  have x1 := HS0.out.box.cell
  go_wp2_with fail
  refine (CR.out _ HS0.out.inn).mono ?_
  rintro e w5 ⟨rfl, hb⟩
  have HS0 := hide (HS0.out.step hb)
  have H1 := hide (H1.out.step hb)
  have H2 := hide (H2.out.step hb)
  have H3 := hide (H3.out.step hb)
  have H4 := hide (H4.out.step hb)
  have HB0 := hide (below_step HB0.out hb)
  clear hb x1 CR
  go_upto_if 62 with fail
  go_cut [23] (fun x wr => x = .int .i64 (if EV ≠ 0 then EV else EN) ∧ Hid (Rt w.heap.size w.heap.size (s, []) aa ca ab cb none 0 wr ∧ Rt w.heap.size b1 RA a1 c1 d1 e1 o1 n1 wr ∧ Rt w.heap.size b2 RB a2 c2 d2 e2 o2 n2 wr ∧ Rt w.heap.size b3 RC a3 c3 d3 e3 o3 n3 wr ∧ Rt w.heap.size b4 (RD, []) a4 c4 d4 e4 none 0 wr ∧ Below w.heap.size w wr))
  case first =>
    as_aux_lemma =>
      by_cases hv : EV = 0
      · have hvb : (EV == 0) = true := by simp [hv]
        have hE1 : (if EV ≠ 0 then EV else EN) = EN := if_neg (by simp [hv])
        clear hv
        go_wp2_with fail
        refine (CT.out _).mono ?_
        rintro e w6 ⟨rfl, hb⟩
        have HS0 := hide (HS0.out.step hb)
        have H1 := hide (H1.out.step hb)
        have H2 := hide (H2.out.step hb)
        have H3 := hide (H3.out.step hb)
        have H4 := hide (H4.out.step hb)
        have HB0 := hide (below_step HB0.out hb)
        clear hb
        go_wp2
        go_meet
        case rel => exact ⟨by rw [hE1], HS0.out, H1.out, H2.out, H3.out, H4.out, HB0.out⟩
      · have hvb : (EV == 0) = false := by simp [hv]
        have hE1 : (if EV ≠ 0 then EV else EN) = EV := if_pos hv
        clear hv
        go_wp2
        go_meet
        case rel => exact ⟨by rw [hE1], HS0.out, H1.out, H2.out, H3.out, H4.out, HB0.out⟩
  case rest =>
    obtain ⟨rfl, HX⟩ := hcut
    have HS0 := hide HX.out.1
    have H1 := hide HX.out.2.1
    have H2 := hide HX.out.2.2.1
    have H3 := hide HX.out.2.2.2.1
    have H4 := hide HX.out.2.2.2.2.1
    have HB0 := hide HX.out.2.2.2.2.2
    clear HX CT
    obtain ⟨E1, hE1⟩ : ∃ E, (if EV ≠ 0 then EV else EN) = E := ⟨_, rfl⟩
    rw [hE1]
    have HE1 := hide hE1
    clear hE1
    go_upto_region 9 with fail
    obtain ⟨wq, hwq⟩ : ∃ W, W = wc := ⟨_, rfl⟩
    subst hwq
    obtain ⟨B1, hB1⟩ : ∃ B, decide (E1 = 0 ∧ 200 < p.size) = B := ⟨_, rfl⟩
    have HB1 := hide hB1
    clear hB1
    go_cut [71] (fun x wr => x = .bool B1 ∧ Hid (wr = wq))
    case first =>
      as_aux_lemma =>
        clear CK C0 XA XB XC XD OA OB OC OD EA EB EC ED HEW HS0 H1 H2 H3 H4 HB0 HE1
        by_cases h0 : E1 = 0
        · have h0b : (E1 == 0) = true := by simp [h0]
          by_cases hp : 200 < p.size
          · have hE : B1 = true := by rw [← HB1.out]; exact decide_eq_true ⟨h0, hp⟩
            have hpi : (200 : Int) < p.size := by omega
            clear hp h0 HB1
            subst hE
            go_wp2
            go_meet
            case rel => exact ⟨rfl, by first | exact rfl | exact trivial⟩
          · have hE : B1 = false := by rw [← HB1.out]; exact decide_eq_false (fun h => hp h.2)
            have hpi : ¬ (200 : Int) < p.size := by omega
            clear hp h0 HB1
            subst hE
            go_wp2
            go_meet
            case rel => exact ⟨rfl, by first | exact rfl | exact trivial⟩
        · have h0b : (E1 == 0) = false := by simp [h0]
          have hE : B1 = false := by rw [← HB1.out]; exact decide_eq_false (fun h => h0 h.1)
          clear h0 HB1
          subst hE
          go_wp2
          go_meet
          case rel => exact ⟨rfl, by first | exact rfl | exact trivial⟩
    case rest =>
      obtain ⟨rfl, hw⟩ := hcut
      have hw := hw.out
      subst hw
      go_upto_if 71 with fail
      obtain ⟨E2, hE2⟩ : ∃ E, (if E1 ≠ 0 then E1 else if 200 < p.size then (2 : Int) else 0) = E := ⟨_, rfl⟩
      have HE2 := hide hE2
      clear hE2
      obtain ⟨wr, hwr⟩ : ∃ W, W = wc := ⟨_, rfl⟩
      subst hwr
      go_cut [23] (fun x wy => x = .int .i64 E2 ∧ Hid (wy = wr))
      case first =>
        as_aux_lemma =>
          clear CK C0 XA XB XC XD OA OB OC OD EA EB EC ED HEW HS0 H1 H2 H3 H4 HB0 HE1
          cases B1 with
          | true =>
            have hh := of_decide_eq_true HB1.out
            have hE : E2 = 2 := by rw [← HE2.out, if_neg (by simp [hh.1]), if_pos hh.2]
            clear hh HB1
            go_wp2
            go_meet
            case rel => exact ⟨by rw [hE], by first | exact rfl | exact trivial⟩
          | false =>
            have hh := of_decide_eq_false HB1.out
            have hE : E2 = E1 := by
              rw [← HE2.out]
              by_cases h0 : E1 = 0
              · rw [if_neg (by simp [h0]), if_neg (fun h => hh ⟨h0, h⟩), h0]
              · rw [if_pos h0]
            clear hh HB1
            go_wp2
            go_meet
            case rel => exact ⟨by rw [hE], by first | exact rfl | exact trivial⟩
      case rest =>
        obtain ⟨rfl, hw⟩ := hcut
        have hw := hw.out
        subst hw
        clear HB1
        go_upto_region 11 with fail
        obtain ⟨wq, hwq⟩ : ∃ W, W = wc := ⟨_, rfl⟩
        subst hwq
        obtain ⟨B2, hB2⟩ : ∃ B, decide (E2 = 0 ∧ q ≠ 0 ∧ q ≠ 1) = B := ⟨_, rfl⟩
        have HB2 := hide hB2
        clear hB2
        go_cut [81] (fun x wr => x = .bool B2 ∧ Hid (wr = wq))
        case first =>
          as_aux_lemma =>
            clear CK C0 XA XB XC XD OA OB OC OD EA EB EC ED HEW HS0 H1 H2 H3 H4 HB0 HE1 HE2
            by_cases h0 : E2 = 0
            · have h0b : (E2 == 0) = true := by simp [h0]
              by_cases q0 : q = 0
              · have hE : B2 = false := by rw [← HB2.out]; exact decide_eq_false (fun h => h.2.1 q0)
                have qb : (q != 0) = false := by simp [q0]
                clear h0 q0 HB2
                subst hE
                go_wp2
                go_meet
                case rel => exact ⟨rfl, by first | exact rfl | exact trivial⟩
              · by_cases q1 : q = 1
                · have hE : B2 = false := by rw [← HB2.out]; exact decide_eq_false (fun h => h.2.2 q1)
                  have qb : (q != 0) = true := by simp [q0]
                  have qb1 : (q != 1) = false := by simp [q1]
                  clear h0 q0 q1 HB2
                  subst hE
                  go_wp2
                  go_meet
                  case rel => exact ⟨rfl, by first | exact rfl | exact trivial⟩
                · have hE : B2 = true := by rw [← HB2.out]; exact decide_eq_true ⟨h0, q0, q1⟩
                  have qb : (q != 0) = true := by simp [q0]
                  have qb1 : (q != 1) = true := by simp [q1]
                  clear h0 q0 q1 HB2
                  subst hE
                  go_wp2
                  go_meet
                  case rel => exact ⟨rfl, by first | exact rfl | exact trivial⟩
            · have h0b : (E2 == 0) = false := by simp [h0]
              have hE : B2 = false := by rw [← HB2.out]; exact decide_eq_false (fun h => h0 h.1)
              clear h0 HB2
              subst hE
              go_wp2
              go_meet
              case rel => exact ⟨rfl, by first | exact rfl | exact trivial⟩
        case rest =>
          obtain ⟨rfl, hw⟩ := hcut
          have hw := hw.out
          subst hw
          go_upto_if 81 with fail
          obtain ⟨wr, hwr⟩ : ∃ W, W = wc := ⟨_, rfl⟩
          subst hwr
          go_cut [23] (fun x wy => x = .int .i64 (if E2 ≠ 0 then E2 else if q = 0 ∨ q = 1 then 0 else 3) ∧ Hid (wy = wr))
          case first =>
            as_aux_lemma =>
              clear CK C0 XA XB XC XD OA OB OC OD EA EB EC ED HEW HS0 H1 H2 H3 H4 HB0 HE1 HE2
              cases B2 with
              | true =>
                have hh := of_decide_eq_true HB2.out
                have hE : (if E2 ≠ 0 then E2 else if q = 0 ∨ q = 1 then (0 : Int) else 3) = 3 := by rw [if_neg (by simp [hh.1]), if_neg (by simp [hh.2.1, hh.2.2])]
                clear hh HB2
                go_wp2
                go_meet
                case rel => exact ⟨by rw [hE], by first | exact rfl | exact trivial⟩
              | false =>
                have hh := of_decide_eq_false HB2.out
                have hE : (if E2 ≠ 0 then E2 else if q = 0 ∨ q = 1 then (0 : Int) else 3) = E2 := by
                  by_cases h0 : E2 = 0
                  · rw [if_neg (by simp [h0]), if_pos (Classical.byContradiction fun hn => hh ⟨h0, fun e => hn (.inl e), fun e => hn (.inr e)⟩), h0]
                  · rw [if_pos h0]
                clear hh HB2
                go_wp2
                go_meet
                case rel => exact ⟨by rw [hE], by first | exact rfl | exact trivial⟩
          case rest =>
            obtain ⟨rfl, hw⟩ := hcut
            have hw := hw.out
            subst hw
            clear HB2
            have hEW : (if E2 ≠ 0 then E2 else if q = 0 ∨ q = 1 then (0 : Int) else 3) = EW := by
              rw [HEW.out, ← HE2.out, ← HE1.out]
              by_cases a1 : EV ≠ 0
              · simp only [if_pos a1]
              · simp only [if_neg a1]
                by_cases a2 : EN ≠ 0
                · simp only [if_pos a2]
                · simp only [if_neg a2]
                  by_cases a3 : 200 < p.size
                  · simp only [if_pos a3]; rfl
                  · simp only [if_neg a3]; rfl
            rw [hEW]
            clear hEW HEW HE1 HE2
            go_upto_region 15 with fail
            have hs0 := HB0.out.size
            have hal0 : Below wc.heap.size wc (wc.alloc (.cells #[.string ⟨#[]⟩, .bool false, .bool false, .slice none 0 0, .slice none 0 0, .int .i64 0] 24)) := (Below.refl _ _).alloc (Nat.le_refl _) _
            have hal1 : Below (wc.alloc (.cells #[.string ⟨#[]⟩, .bool false, .bool false, .slice none 0 0, .slice none 0 0, .int .i64 0] 24)).heap.size (wc.alloc (.cells #[.string ⟨#[]⟩, .bool false, .bool false, .slice none 0 0, .slice none 0 0, .int .i64 0] 24)) ((wc.alloc (.cells #[.string ⟨#[]⟩, .bool false, .bool false, .slice none 0 0, .slice none 0 0, .int .i64 0] 24)).alloc (.cells #[.string ⟨#[]⟩, .bool false, .bool false, .slice none 0 0, .slice none 0 0, .int .i64 0] 24)) := (Below.refl _ _).alloc (Nat.le_refl _) _
            have hal2 : Below ((wc.alloc (.cells #[.string ⟨#[]⟩, .bool false, .bool false, .slice none 0 0, .slice none 0 0, .int .i64 0] 24)).alloc (.cells #[.string ⟨#[]⟩, .bool false, .bool false, .slice none 0 0, .slice none 0 0, .int .i64 0] 24)).heap.size ((wc.alloc (.cells #[.string ⟨#[]⟩, .bool false, .bool false, .slice none 0 0, .slice none 0 0, .int .i64 0] 24)).alloc (.cells #[.string ⟨#[]⟩, .bool false, .bool false, .slice none 0 0, .slice none 0 0, .int .i64 0] 24)) (((wc.alloc (.cells #[.string ⟨#[]⟩, .bool false, .bool false, .slice none 0 0, .slice none 0 0, .int .i64 0] 24)).alloc (.cells #[.string ⟨#[]⟩, .bool false, .bool false, .slice none 0 0, .slice none 0 0, .int .i64 0] 24)).alloc (.cells #[.string ⟨#[]⟩, .bool false, .bool false, .slice none 0 0, .slice none 0 0, .int .i64 0] 24)) := (Below.refl _ _).alloc (Nat.le_refl _) _
            have hal3 : Below (((wc.alloc (.cells #[.string ⟨#[]⟩, .bool false, .bool false, .slice none 0 0, .slice none 0 0, .int .i64 0] 24)).alloc (.cells #[.string ⟨#[]⟩, .bool false, .bool false, .slice none 0 0, .slice none 0 0, .int .i64 0] 24)).alloc (.cells #[.string ⟨#[]⟩, .bool false, .bool false, .slice none 0 0, .slice none 0 0, .int .i64 0] 24)).heap.size (((wc.alloc (.cells #[.string ⟨#[]⟩, .bool false, .bool false, .slice none 0 0, .slice none 0 0, .int .i64 0] 24)).alloc (.cells #[.string ⟨#[]⟩, .bool false, .bool false, .slice none 0 0, .slice none 0 0, .int .i64 0] 24)).alloc (.cells #[.string ⟨#[]⟩, .bool false, .bool false, .slice none 0 0, .slice none 0 0, .int .i64 0] 24)) ((((wc.alloc (.cells #[.string ⟨#[]⟩, .bool false, .bool false, .slice none 0 0, .slice none 0 0, .int .i64 0] 24)).alloc (.cells #[.string ⟨#[]⟩, .bool false, .bool false, .slice none 0 0, .slice none 0 0, .int .i64 0] 24)).alloc (.cells #[.string ⟨#[]⟩, .bool false, .bool false, .slice none 0 0, .slice none 0 0, .int .i64 0] 24)).alloc (.cells #[.string ⟨#[]⟩, .bool false, .bool false, .slice none 0 0, .slice none 0 0, .int .i64 0] 24)) := (Below.refl _ _).alloc (Nat.le_refl _) _
            have hAL : Below wc.heap.size wc ((((wc.alloc (.cells #[.string ⟨#[]⟩, .bool false, .bool false, .slice none 0 0, .slice none 0 0, .int .i64 0] 24)).alloc (.cells #[.string ⟨#[]⟩, .bool false, .bool false, .slice none 0 0, .slice none 0 0, .int .i64 0] 24)).alloc (.cells #[.string ⟨#[]⟩, .bool false, .bool false, .slice none 0 0, .slice none 0 0, .int .i64 0] 24)).alloc (.cells #[.string ⟨#[]⟩, .bool false, .bool false, .slice none 0 0, .slice none 0 0, .int .i64 0] 24)) := (((hal0.trans (hal1.mono (by simp))).trans (hal2.mono (by simp; omega))).trans (hal3.mono (by simp; omega)))
            have Z0 : Hid (Rt w.heap.size wc.heap.size (zeroSe, []) none 0 none 0 none 0 ((((wc.alloc (.cells #[.string ⟨#[]⟩, .bool false, .bool false, .slice none 0 0, .slice none 0 0, .int .i64 0] 24)).alloc (.cells #[.string ⟨#[]⟩, .bool false, .bool false, .slice none 0 0, .slice none 0 0, .int .i64 0] 24)).alloc (.cells #[.string ⟨#[]⟩, .bool false, .bool false, .slice none 0 0, .slice none 0 0, .int .i64 0] 24)).alloc (.cells #[.string ⟨#[]⟩, .bool false, .bool false, .slice none 0 0, .slice none 0 0, .int .i64 0] 24))) := by
              have z := Rt.new (N := w.heap.size) (R := (zeroSe, [])) (W := wc) (a1 := none) (c1 := 0) (a2 := none) (c2 := 0) (ao := none) (cs := 0) (.inl rfl) (.inl rfl) (Nat.le_refl _) (World.ownsRow_nil _ w.heap.size _ _) hs0
              exact (((z.step hal1).step hal2).step hal3)
            have Z1 : Hid (Rt w.heap.size (wc.heap.size + 1) (zeroSe, []) none 0 none 0 none 0 ((((wc.alloc (.cells #[.string ⟨#[]⟩, .bool false, .bool false, .slice none 0 0, .slice none 0 0, .int .i64 0] 24)).alloc (.cells #[.string ⟨#[]⟩, .bool false, .bool false, .slice none 0 0, .slice none 0 0, .int .i64 0] 24)).alloc (.cells #[.string ⟨#[]⟩, .bool false, .bool false, .slice none 0 0, .slice none 0 0, .int .i64 0] 24)).alloc (.cells #[.string ⟨#[]⟩, .bool false, .bool false, .slice none 0 0, .slice none 0 0, .int .i64 0] 24))) := by
              have z := Rt.new (N := w.heap.size) (R := (zeroSe, [])) (W := (wc.alloc (.cells #[.string ⟨#[]⟩, .bool false, .bool false, .slice none 0 0, .slice none 0 0, .int .i64 0] 24))) (a1 := none) (c1 := 0) (a2 := none) (c2 := 0) (ao := none) (cs := 0) (.inl rfl) (.inl rfl) (Nat.le_refl _) (World.ownsRow_nil _ w.heap.size _ _) (by simp only [World.size_alloc]; omega)
              simp only [World.size_alloc] at z
              exact ((z.step hal2).step hal3)
            have Z2 : Hid (Rt w.heap.size (wc.heap.size + 1 + 1) (zeroSe, []) none 0 none 0 none 0 ((((wc.alloc (.cells #[.string ⟨#[]⟩, .bool false, .bool false, .slice none 0 0, .slice none 0 0, .int .i64 0] 24)).alloc (.cells #[.string ⟨#[]⟩, .bool false, .bool false, .slice none 0 0, .slice none 0 0, .int .i64 0] 24)).alloc (.cells #[.string ⟨#[]⟩, .bool false, .bool false, .slice none 0 0, .slice none 0 0, .int .i64 0] 24)).alloc (.cells #[.string ⟨#[]⟩, .bool false, .bool false, .slice none 0 0, .slice none 0 0, .int .i64 0] 24))) := by
              have z := Rt.new (N := w.heap.size) (R := (zeroSe, [])) (W := ((wc.alloc (.cells #[.string ⟨#[]⟩, .bool false, .bool false, .slice none 0 0, .slice none 0 0, .int .i64 0] 24)).alloc (.cells #[.string ⟨#[]⟩, .bool false, .bool false, .slice none 0 0, .slice none 0 0, .int .i64 0] 24))) (a1 := none) (c1 := 0) (a2 := none) (c2 := 0) (ao := none) (cs := 0) (.inl rfl) (.inl rfl) (Nat.le_refl _) (World.ownsRow_nil _ w.heap.size _ _) (by simp only [World.size_alloc]; omega)
              simp only [World.size_alloc] at z
              exact (z.step hal3)
            have Z3 : Hid (Rt w.heap.size (wc.heap.size + 1 + 1 + 1) (zeroSe, []) none 0 none 0 none 0 ((((wc.alloc (.cells #[.string ⟨#[]⟩, .bool false, .bool false, .slice none 0 0, .slice none 0 0, .int .i64 0] 24)).alloc (.cells #[.string ⟨#[]⟩, .bool false, .bool false, .slice none 0 0, .slice none 0 0, .int .i64 0] 24)).alloc (.cells #[.string ⟨#[]⟩, .bool false, .bool false, .slice none 0 0, .slice none 0 0, .int .i64 0] 24)).alloc (.cells #[.string ⟨#[]⟩, .bool false, .bool false, .slice none 0 0, .slice none 0 0, .int .i64 0] 24))) := by
              have z := Rt.new (N := w.heap.size) (R := (zeroSe, [])) (W := (((wc.alloc (.cells #[.string ⟨#[]⟩, .bool false, .bool false, .slice none 0 0, .slice none 0 0, .int .i64 0] 24)).alloc (.cells #[.string ⟨#[]⟩, .bool false, .bool false, .slice none 0 0, .slice none 0 0, .int .i64 0] 24)).alloc (.cells #[.string ⟨#[]⟩, .bool false, .bool false, .slice none 0 0, .slice none 0 0, .int .i64 0] 24))) (a1 := none) (c1 := 0) (a2 := none) (c2 := 0) (ao := none) (cs := 0) (.inl rfl) (.inl rfl) (Nat.le_refl _) (World.ownsRow_nil _ w.heap.size _ _) (by simp only [World.size_alloc]; omega)
              simp only [World.size_alloc] at z
              exact z
            have hlt : w.heap.size < wc.heap.size ∧ b1 < wc.heap.size ∧ b2 < wc.heap.size ∧ b3 < wc.heap.size ∧ b4 < wc.heap.size := ⟨HS0.out.box.lt, H1.out.box.lt, H2.out.box.lt, H3.out.box.lt, H4.out.box.lt⟩
            have HLT := hide hlt
            clear hlt
            have HS0 := hide (HS0.out.step hAL)
            have H1 := hide (H1.out.step hAL)
            have H2 := hide (H2.out.step hAL)
            have H3 := hide (H3.out.step hAL)
            have H4 := hide (H4.out.step hAL)
            have HB0 := hide (below_step HB0.out hAL)
            clear hal0 hal1 hal2 hal3 hAL hs0
            revert Z0 Z1 Z2 Z3 HS0 H1 H2 H3 H4 HB0
            generalize (((wc.alloc (.cells #[.string ⟨#[]⟩, .bool false, .bool false, .slice none 0 0, .slice none 0 0, .int .i64 0] 24)).alloc (.cells #[.string ⟨#[]⟩, .bool false, .bool false, .slice none 0 0, .slice none 0 0, .int .i64 0] 24)).alloc (.cells #[.string ⟨#[]⟩, .bool false, .bool false, .slice none 0 0, .slice none 0 0, .int .i64 0] 24)).alloc (.cells #[.string ⟨#[]⟩, .bool false, .bool false, .slice none 0 0, .slice none 0 0, .int .i64 0] 24) = W6
            generalize wc.heap.size = bz at *
            intro Z0 Z1 Z2 Z3 HS0 H1 H2 H3 H4 HB0
            go_upto_if 83 with fail
            go_cut [28] (fun x wr => ∃ (X : Se × List Pk) (xa : Option Addr) (xb : Nat) (xc : Option Addr) (xd : Nat) (xe : Option Addr) (xf : Nat), x = .slice xe X.2.length xf ∧ Hid (Rt w.heap.size w.heap.size (s, []) aa ca ab cb none 0 wr ∧ Rt w.heap.size b1 RA a1 c1 d1 e1 o1 n1 wr ∧ Rt w.heap.size b2 RB a2 c2 d2 e2 o2 n2 wr ∧ Rt w.heap.size b3 RC a3 c3 d3 e3 o3 n3 wr ∧ Rt w.heap.size b4 (RD, []) a4 c4 d4 e4 none 0 wr ∧ Rt w.heap.size (bz + 1) (zeroSe, []) none 0 none 0 none 0 wr ∧ Rt w.heap.size (bz + 1 + 1) (zeroSe, []) none 0 none 0 none 0 wr ∧ Rt w.heap.size (bz + 1 + 1 + 1) (zeroSe, []) none 0 none 0 none 0 wr ∧ Below w.heap.size w wr ∧ Rt w.heap.size bz X xa xb xc xd xe xf wr ∧ (EW = 0 → X = RA)))
            case first =>
              as_aux_lemma =>
                by_cases hw : EW = 0
                · have hwb : (EW == 0) = true := by simp [hw]
                  have CX := hide (XA.out hw)
                  clear hw XA XB XC XD OA OB OC OD EA EB EC ED CK C0
                  have x1 := HS0.out.box.cell
                  go_wp2_with fail
                  refine (CX.out _ HB0.out.size HS0.out.fl HS0.out.qu).mono ?_
                  rintro e w7 ⟨r1, u1, r2, u2, ro, rs, rfl, g1, g2, g3, g4, g5⟩
                  have HSZ := hide HB0.out.size
                  have G1 := hide g1
                  have G2 := hide g2
                  have G4 := hide g4
                  have HS0 := hide (HS0.out.step g5)
                  have H1 := hide (H1.out.step g5)
                  have H2 := hide (H2.out.step g5)
                  have H3 := hide (H3.out.step g5)
                  have H4 := hide (H4.out.step g5)
                  have Z0 := hide (Z0.out.step g5)
                  have Z1 := hide (Z1.out.step g5)
                  have Z2 := hide (Z2.out.step g5)
                  have Z3 := hide (Z3.out.step g5)
                  have HB0 := hide (below_step HB0.out g5)
                  clear g1 g2 g3 g4 g5 x1 CX
                  have z1 := Z0.out.box.cell
                  have z2 := Z0.out.box.frozen
                  simp only [zeroSe] at z1
                  go_wp2
                  have XN := hide (Rt.put (R := RA) (a1 := r1) (c1 := u1) (a2 := r2) (c2 := u2) (ao := ro) (cs := rs) Z0.out.box Z0.out.le G1.out G2.out HSZ.out G4.out)
                  have HS0 := hide (HS0.out.six Z0.out.box Z0.out.le (by have := HLT.out; omega) (.string RA.1.client) (.bool RA.1.on) (.bool RA.1.clean) (.slice r1 RA.1.fl.length u1) (.slice r2 RA.1.qu.length u2) (.int .i64 RA.1.next))
                  have H1 := hide (H1.out.six Z0.out.box Z0.out.le (by have := HLT.out; omega) (.string RA.1.client) (.bool RA.1.on) (.bool RA.1.clean) (.slice r1 RA.1.fl.length u1) (.slice r2 RA.1.qu.length u2) (.int .i64 RA.1.next))
                  have H2 := hide (H2.out.six Z0.out.box Z0.out.le (by have := HLT.out; omega) (.string RA.1.client) (.bool RA.1.on) (.bool RA.1.clean) (.slice r1 RA.1.fl.length u1) (.slice r2 RA.1.qu.length u2) (.int .i64 RA.1.next))
                  have H3 := hide (H3.out.six Z0.out.box Z0.out.le (by have := HLT.out; omega) (.string RA.1.client) (.bool RA.1.on) (.bool RA.1.clean) (.slice r1 RA.1.fl.length u1) (.slice r2 RA.1.qu.length u2) (.int .i64 RA.1.next))
                  have H4 := hide (H4.out.six Z0.out.box Z0.out.le (by have := HLT.out; omega) (.string RA.1.client) (.bool RA.1.on) (.bool RA.1.clean) (.slice r1 RA.1.fl.length u1) (.slice r2 RA.1.qu.length u2) (.int .i64 RA.1.next))
                  have Z1 := hide (Z1.out.six Z0.out.box Z0.out.le (by have := HLT.out; omega) (.string RA.1.client) (.bool RA.1.on) (.bool RA.1.clean) (.slice r1 RA.1.fl.length u1) (.slice r2 RA.1.qu.length u2) (.int .i64 RA.1.next))
                  have Z2 := hide (Z2.out.six Z0.out.box Z0.out.le (by have := HLT.out; omega) (.string RA.1.client) (.bool RA.1.on) (.bool RA.1.clean) (.slice r1 RA.1.fl.length u1) (.slice r2 RA.1.qu.length u2) (.int .i64 RA.1.next))
                  have Z3 := hide (Z3.out.six Z0.out.box Z0.out.le (by have := HLT.out; omega) (.string RA.1.client) (.bool RA.1.on) (.bool RA.1.clean) (.slice r1 RA.1.fl.length u1) (.slice r2 RA.1.qu.length u2) (.int .i64 RA.1.next))
                  have HB0 := hide (ssix_below HB0.out Z0.out.le (.string RA.1.client) (.bool RA.1.on) (.bool RA.1.clean) (.slice r1 RA.1.fl.length u1) (.slice r2 RA.1.qu.length u2) (.int .i64 RA.1.next))
                  clear z1 z2 Z0 G1 G2
                  go_meet
                  case rel => exact ⟨RA, r1, u1, r2, u2, ro, rs, rfl, HS0.out, H1.out, H2.out, H3.out, H4.out, Z1.out, Z2.out, Z3.out, HB0.out, XN.out, fun _ => rfl⟩
                · have hwb : (EW == 0) = false := by simp [hw]
                  have HW := hide hw
                  clear hw
                  go_wp2
                  go_meet
                  case rel => exact ⟨(zeroSe, []), none, 0, none, 0, none, 0, by rfl, HS0.out, H1.out, H2.out, H3.out, H4.out, Z1.out, Z2.out, Z3.out, HB0.out, Z0.out, fun h => absurd h HW.out⟩
            case rest =>
              obtain ⟨X, xa, xb, xc, xd, xe, xf, rfl, HX⟩ := hcut
              clear HS0 H1 H2 H3 H4 Z0 Z1 Z2 Z3 HB0 XA
              have HS0 := hide HX.out.1
              have H1 := hide HX.out.2.1
              have H2 := hide HX.out.2.2.1
              have H3 := hide HX.out.2.2.2.1
              have H4 := hide HX.out.2.2.2.2.1
              have Z1 := hide HX.out.2.2.2.2.2.1
              have Z2 := hide HX.out.2.2.2.2.2.2.1
              have Z3 := hide HX.out.2.2.2.2.2.2.2.1
              have HB0 := hide HX.out.2.2.2.2.2.2.2.2.1
              have XN := hide HX.out.2.2.2.2.2.2.2.2.2.1
              have XE := hide HX.out.2.2.2.2.2.2.2.2.2.2
              clear HX
              go_upto_if 93 with fail
              go_cut [29, 30] (fun x y wr => ∃ (Y V : Se × List Pk) (K : Se) (ya : Option Addr) (yb : Nat) (yc : Option Addr) (yd : Nat) (ye : Option Addr) (yf : Nat) (va : Option Addr) (vb : Nat) (vc : Option Addr) (vd : Nat) (ve : Option Addr) (vf : Nat) (ka : Option Addr) (kb : Nat) (kc : Option Addr) (kd : Nat), x = .slice ye Y.2.length yf ∧ y = .slice ve V.2.length vf ∧ Hid (Rt w.heap.size w.heap.size (s, []) aa ca ab cb none 0 wr ∧ Rt w.heap.size b1 RA a1 c1 d1 e1 o1 n1 wr ∧ Rt w.heap.size b2 RB a2 c2 d2 e2 o2 n2 wr ∧ Rt w.heap.size b3 RC a3 c3 d3 e3 o3 n3 wr ∧ Rt w.heap.size b4 (RD, []) a4 c4 d4 e4 none 0 wr ∧ Rt w.heap.size bz X xa xb xc xd xe xf wr ∧ Below w.heap.size w wr ∧ Rt w.heap.size (bz + 1) Y ya yb yc yd ye yf wr ∧ Rt w.heap.size (bz + 1 + 1) V va vb vc vd ve vf wr ∧ Rt w.heap.size (bz + 1 + 1 + 1) (K, []) ka kb kc kd none 0 wr ∧ (EV = 0 → Y = RB ∧ V = RC ∧ K = RD)))
              case first =>
                as_aux_lemma =>
                  by_cases hv : EV = 0
                  · have hvb : (EV == 0) = true := by simp [hv]
                    have CX := hide (XB.out hv)
                    have CY := hide (XC.out hv)
                    have CZ := hide (XD.out hv)
                    clear hv XB XC XD OA OB OC OD EA EB EC ED CK C0 XE
                    go_upto_region 18 with fail
                    go_cut [29] (fun x wr => ∃ (ya : Option Addr) (yb : Nat) (yc : Option Addr) (yd : Nat) (ye : Option Addr) (yf : Nat), x = .slice ye RB.2.length yf ∧ Hid (Rt w.heap.size w.heap.size (s, []) aa ca ab cb none 0 wr ∧ Rt w.heap.size b1 RA a1 c1 d1 e1 o1 n1 wr ∧ Rt w.heap.size b2 RB a2 c2 d2 e2 o2 n2 wr ∧ Rt w.heap.size b3 RC a3 c3 d3 e3 o3 n3 wr ∧ Rt w.heap.size b4 (RD, []) a4 c4 d4 e4 none 0 wr ∧ Rt w.heap.size bz X xa xb xc xd xe xf wr ∧ Rt w.heap.size (bz + 1 + 1) (zeroSe, []) none 0 none 0 none 0 wr ∧ Rt w.heap.size (bz + 1 + 1 + 1) (zeroSe, []) none 0 none 0 none 0 wr ∧ Rt w.heap.size (bz + 1) RB ya yb yc yd ye yf wr ∧ Below w.heap.size w wr))
                    case first =>
                      as_aux_lemma =>
                        clear CY CZ
                        have x1 := HS0.out.box.cell
                        go_wp2_with fail
                        refine (CX.out _ HB0.out.size HS0.out.fl HS0.out.qu).mono ?_
                        rintro e w8 ⟨r8, u8, s8, v8, p8, n8, rfl, g1, g2, g3, g4, g5⟩
                        have HSZ := hide HB0.out.size
                        have G1 := hide g1
                        have G2 := hide g2
                        have G4 := hide g4
                        have Z1 := hide (Z1.out.step g5)
                        have HS0 := hide (HS0.out.step g5)
                        have H1 := hide (H1.out.step g5)
                        have H2 := hide (H2.out.step g5)
                        have H3 := hide (H3.out.step g5)
                        have H4 := hide (H4.out.step g5)
                        have XN := hide (XN.out.step g5)
                        have Z2 := hide (Z2.out.step g5)
                        have Z3 := hide (Z3.out.step g5)
                        have HB0 := hide (below_step HB0.out g5)
                        clear g1 g2 g3 g4 g5 x1 CX
                        have z1 := Z1.out.box.cell
                        have z2 := Z1.out.box.frozen
                        simp only [zeroSe] at z1
                        go_wp2
                        have NB := hide (Rt.put (R := RB) (a1 := r8) (c1 := u8) (a2 := s8) (c2 := v8) (ao := p8) (cs := n8) Z1.out.box Z1.out.le G1.out G2.out HSZ.out G4.out)
                        have HS0 := hide (HS0.out.six Z1.out.box Z1.out.le (by have := HLT.out; omega) (.string RB.1.client) (.bool RB.1.on) (.bool RB.1.clean) (.slice r8 RB.1.fl.length u8) (.slice s8 RB.1.qu.length v8) (.int .i64 RB.1.next))
                        have H1 := hide (H1.out.six Z1.out.box Z1.out.le (by have := HLT.out; omega) (.string RB.1.client) (.bool RB.1.on) (.bool RB.1.clean) (.slice r8 RB.1.fl.length u8) (.slice s8 RB.1.qu.length v8) (.int .i64 RB.1.next))
                        have H2 := hide (H2.out.six Z1.out.box Z1.out.le (by have := HLT.out; omega) (.string RB.1.client) (.bool RB.1.on) (.bool RB.1.clean) (.slice r8 RB.1.fl.length u8) (.slice s8 RB.1.qu.length v8) (.int .i64 RB.1.next))
                        have H3 := hide (H3.out.six Z1.out.box Z1.out.le (by have := HLT.out; omega) (.string RB.1.client) (.bool RB.1.on) (.bool RB.1.clean) (.slice r8 RB.1.fl.length u8) (.slice s8 RB.1.qu.length v8) (.int .i64 RB.1.next))
                        have H4 := hide (H4.out.six Z1.out.box Z1.out.le (by have := HLT.out; omega) (.string RB.1.client) (.bool RB.1.on) (.bool RB.1.clean) (.slice r8 RB.1.fl.length u8) (.slice s8 RB.1.qu.length v8) (.int .i64 RB.1.next))
                        have XN := hide (XN.out.six Z1.out.box Z1.out.le (by have := HLT.out; omega) (.string RB.1.client) (.bool RB.1.on) (.bool RB.1.clean) (.slice r8 RB.1.fl.length u8) (.slice s8 RB.1.qu.length v8) (.int .i64 RB.1.next))
                        have Z2 := hide (Z2.out.six Z1.out.box Z1.out.le (by have := HLT.out; omega) (.string RB.1.client) (.bool RB.1.on) (.bool RB.1.clean) (.slice r8 RB.1.fl.length u8) (.slice s8 RB.1.qu.length v8) (.int .i64 RB.1.next))
                        have Z3 := hide (Z3.out.six Z1.out.box Z1.out.le (by have := HLT.out; omega) (.string RB.1.client) (.bool RB.1.on) (.bool RB.1.clean) (.slice r8 RB.1.fl.length u8) (.slice s8 RB.1.qu.length v8) (.int .i64 RB.1.next))
                        have HB0 := hide (ssix_below HB0.out Z1.out.le (.string RB.1.client) (.bool RB.1.on) (.bool RB.1.clean) (.slice r8 RB.1.fl.length u8) (.slice s8 RB.1.qu.length v8) (.int .i64 RB.1.next))
                        clear z1 z2 Z1 G1 G2
                        go_meet
                        case rel => exact ⟨r8, u8, s8, v8, p8, n8, rfl, HS0.out, H1.out, H2.out, H3.out, H4.out, XN.out, Z2.out, Z3.out, NB.out, HB0.out⟩
                    case rest =>
                      obtain ⟨ya, yb, yc, yd, ye, yf, rfl, HX⟩ := hcut
                      clear HS0 H1 H2 H3 H4 XN Z1 Z2 Z3 HB0 CX
                      have HS0 := hide HX.out.1
                      have H1 := hide HX.out.2.1
                      have H2 := hide HX.out.2.2.1
                      have H3 := hide HX.out.2.2.2.1
                      have H4 := hide HX.out.2.2.2.2.1
                      have XN := hide HX.out.2.2.2.2.2.1
                      have Z2 := hide HX.out.2.2.2.2.2.2.1
                      have Z3 := hide HX.out.2.2.2.2.2.2.2.1
                      have NB := hide HX.out.2.2.2.2.2.2.2.2.1
                      have HB0 := hide HX.out.2.2.2.2.2.2.2.2.2
                      clear HX
                      go_upto_region 19 with fail
                      go_cut [30] (fun x wr => ∃ (va : Option Addr) (vb : Nat) (vc : Option Addr) (vd : Nat) (ve : Option Addr) (vf : Nat), x = .slice ve RC.2.length vf ∧ Hid (Rt w.heap.size w.heap.size (s, []) aa ca ab cb none 0 wr ∧ Rt w.heap.size b1 RA a1 c1 d1 e1 o1 n1 wr ∧ Rt w.heap.size b2 RB a2 c2 d2 e2 o2 n2 wr ∧ Rt w.heap.size b3 RC a3 c3 d3 e3 o3 n3 wr ∧ Rt w.heap.size b4 (RD, []) a4 c4 d4 e4 none 0 wr ∧ Rt w.heap.size bz X xa xb xc xd xe xf wr ∧ Rt w.heap.size (bz + 1 + 1 + 1) (zeroSe, []) none 0 none 0 none 0 wr ∧ Rt w.heap.size (bz + 1) RB ya yb yc yd ye yf wr ∧ Rt w.heap.size (bz + 1 + 1) RC va vb vc vd ve vf wr ∧ Below w.heap.size w wr))
                      case first =>
                        as_aux_lemma =>
                          clear CZ
                          have x1 := HS0.out.box.cell
                          go_wp2_with fail
                          refine (CY.out _ HB0.out.size HS0.out.fl HS0.out.qu).mono ?_
                          rintro e w9 ⟨r9, u9, s9, v9, p9, n9, rfl, g1, g2, g3, g4, g5⟩
                          have HSZ := hide HB0.out.size
                          have G1 := hide g1
                          have G2 := hide g2
                          have G4 := hide g4
                          have Z2 := hide (Z2.out.step g5)
                          have HS0 := hide (HS0.out.step g5)
                          have H1 := hide (H1.out.step g5)
                          have H2 := hide (H2.out.step g5)
                          have H3 := hide (H3.out.step g5)
                          have H4 := hide (H4.out.step g5)
                          have XN := hide (XN.out.step g5)
                          have Z3 := hide (Z3.out.step g5)
                          have NB := hide (NB.out.step g5)
                          have HB0 := hide (below_step HB0.out g5)
                          clear g1 g2 g3 g4 g5 x1 CY
                          have z1 := Z2.out.box.cell
                          have z2 := Z2.out.box.frozen
                          simp only [zeroSe] at z1
                          go_wp2
                          have NC := hide (Rt.put (R := RC) (a1 := r9) (c1 := u9) (a2 := s9) (c2 := v9) (ao := p9) (cs := n9) Z2.out.box Z2.out.le G1.out G2.out HSZ.out G4.out)
                          have HS0 := hide (HS0.out.six Z2.out.box Z2.out.le (by have := HLT.out; omega) (.string RC.1.client) (.bool RC.1.on) (.bool RC.1.clean) (.slice r9 RC.1.fl.length u9) (.slice s9 RC.1.qu.length v9) (.int .i64 RC.1.next))
                          have H1 := hide (H1.out.six Z2.out.box Z2.out.le (by have := HLT.out; omega) (.string RC.1.client) (.bool RC.1.on) (.bool RC.1.clean) (.slice r9 RC.1.fl.length u9) (.slice s9 RC.1.qu.length v9) (.int .i64 RC.1.next))
                          have H2 := hide (H2.out.six Z2.out.box Z2.out.le (by have := HLT.out; omega) (.string RC.1.client) (.bool RC.1.on) (.bool RC.1.clean) (.slice r9 RC.1.fl.length u9) (.slice s9 RC.1.qu.length v9) (.int .i64 RC.1.next))
                          have H3 := hide (H3.out.six Z2.out.box Z2.out.le (by have := HLT.out; omega) (.string RC.1.client) (.bool RC.1.on) (.bool RC.1.clean) (.slice r9 RC.1.fl.length u9) (.slice s9 RC.1.qu.length v9) (.int .i64 RC.1.next))
                          have H4 := hide (H4.out.six Z2.out.box Z2.out.le (by have := HLT.out; omega) (.string RC.1.client) (.bool RC.1.on) (.bool RC.1.clean) (.slice r9 RC.1.fl.length u9) (.slice s9 RC.1.qu.length v9) (.int .i64 RC.1.next))
                          have XN := hide (XN.out.six Z2.out.box Z2.out.le (by have := HLT.out; omega) (.string RC.1.client) (.bool RC.1.on) (.bool RC.1.clean) (.slice r9 RC.1.fl.length u9) (.slice s9 RC.1.qu.length v9) (.int .i64 RC.1.next))
                          have Z3 := hide (Z3.out.six Z2.out.box Z2.out.le (by have := HLT.out; omega) (.string RC.1.client) (.bool RC.1.on) (.bool RC.1.clean) (.slice r9 RC.1.fl.length u9) (.slice s9 RC.1.qu.length v9) (.int .i64 RC.1.next))
                          have NB := hide (NB.out.six Z2.out.box Z2.out.le (by have := HLT.out; omega) (.string RC.1.client) (.bool RC.1.on) (.bool RC.1.clean) (.slice r9 RC.1.fl.length u9) (.slice s9 RC.1.qu.length v9) (.int .i64 RC.1.next))
                          have HB0 := hide (ssix_below HB0.out Z2.out.le (.string RC.1.client) (.bool RC.1.on) (.bool RC.1.clean) (.slice r9 RC.1.fl.length u9) (.slice s9 RC.1.qu.length v9) (.int .i64 RC.1.next))
                          clear z1 z2 Z2 G1 G2
                          go_meet
                          case rel => exact ⟨r9, u9, s9, v9, p9, n9, rfl, HS0.out, H1.out, H2.out, H3.out, H4.out, XN.out, Z3.out, NB.out, NC.out, HB0.out⟩
                      case rest =>
                        obtain ⟨va, vb, vc, vd, ve, vf, rfl, HX⟩ := hcut
                        clear HS0 H1 H2 H3 H4 XN Z2 Z3 NB HB0 CY
                        have HS0 := hide HX.out.1
                        have H1 := hide HX.out.2.1
                        have H2 := hide HX.out.2.2.1
                        have H3 := hide HX.out.2.2.2.1
                        have H4 := hide HX.out.2.2.2.2.1
                        have XN := hide HX.out.2.2.2.2.2.1
                        have Z3 := hide HX.out.2.2.2.2.2.2.1
                        have NB := hide HX.out.2.2.2.2.2.2.2.1
                        have NC := hide HX.out.2.2.2.2.2.2.2.2.1
                        have HB0 := hide HX.out.2.2.2.2.2.2.2.2.2
                        clear HX
                        go_upto_region 20 with fail
                        have x1 := HS0.out.box.cell
                        go_wp2_with fail
                        refine (CZ.out _ HB0.out.size HS0.out.fl HS0.out.qu).mono ?_
                        rintro e w10 ⟨r10, u10, s10, v10, rfl, g1, g2, g5⟩
                        have HSZ := hide HB0.out.size
                        have G1 := hide g1
                        have G2 := hide g2
                        have Z3 := hide (Z3.out.step g5)
                        have HS0 := hide (HS0.out.step g5)
                        have H1 := hide (H1.out.step g5)
                        have H2 := hide (H2.out.step g5)
                        have H3 := hide (H3.out.step g5)
                        have H4 := hide (H4.out.step g5)
                        have XN := hide (XN.out.step g5)
                        have NB := hide (NB.out.step g5)
                        have NC := hide (NC.out.step g5)
                        have HB0 := hide (below_step HB0.out g5)
                        clear g1 g2 g5 x1 CZ
                        have z1 := Z3.out.box.cell
                        have z2 := Z3.out.box.frozen
                        simp only [zeroSe] at z1
                        go_wp2
                        have ND := hide (Rt.put (R := (RD, [])) (a1 := r10) (c1 := u10) (a2 := s10) (c2 := v10) (ao := none) (cs := 0) Z3.out.box Z3.out.le G1.out G2.out (Nat.le_refl _) (World.ownsRow_nil _ w.heap.size _ _))
                        have HS0 := hide (HS0.out.six Z3.out.box Z3.out.le (by have := HLT.out; omega) (.string RD.client) (.bool RD.on) (.bool RD.clean) (.slice r10 RD.fl.length u10) (.slice s10 RD.qu.length v10) (.int .i64 RD.next))
                        have H1 := hide (H1.out.six Z3.out.box Z3.out.le (by have := HLT.out; omega) (.string RD.client) (.bool RD.on) (.bool RD.clean) (.slice r10 RD.fl.length u10) (.slice s10 RD.qu.length v10) (.int .i64 RD.next))
                        have H2 := hide (H2.out.six Z3.out.box Z3.out.le (by have := HLT.out; omega) (.string RD.client) (.bool RD.on) (.bool RD.clean) (.slice r10 RD.fl.length u10) (.slice s10 RD.qu.length v10) (.int .i64 RD.next))
                        have H3 := hide (H3.out.six Z3.out.box Z3.out.le (by have := HLT.out; omega) (.string RD.client) (.bool RD.on) (.bool RD.clean) (.slice r10 RD.fl.length u10) (.slice s10 RD.qu.length v10) (.int .i64 RD.next))
                        have H4 := hide (H4.out.six Z3.out.box Z3.out.le (by have := HLT.out; omega) (.string RD.client) (.bool RD.on) (.bool RD.clean) (.slice r10 RD.fl.length u10) (.slice s10 RD.qu.length v10) (.int .i64 RD.next))
                        have XN := hide (XN.out.six Z3.out.box Z3.out.le (by have := HLT.out; omega) (.string RD.client) (.bool RD.on) (.bool RD.clean) (.slice r10 RD.fl.length u10) (.slice s10 RD.qu.length v10) (.int .i64 RD.next))
                        have NB := hide (NB.out.six Z3.out.box Z3.out.le (by have := HLT.out; omega) (.string RD.client) (.bool RD.on) (.bool RD.clean) (.slice r10 RD.fl.length u10) (.slice s10 RD.qu.length v10) (.int .i64 RD.next))
                        have NC := hide (NC.out.six Z3.out.box Z3.out.le (by have := HLT.out; omega) (.string RD.client) (.bool RD.on) (.bool RD.clean) (.slice r10 RD.fl.length u10) (.slice s10 RD.qu.length v10) (.int .i64 RD.next))
                        have HB0 := hide (ssix_below HB0.out Z3.out.le (.string RD.client) (.bool RD.on) (.bool RD.clean) (.slice r10 RD.fl.length u10) (.slice s10 RD.qu.length v10) (.int .i64 RD.next))
                        clear z1 z2 Z3 G1 G2
                        go_meet
                        case rel => exact ⟨RB, RC, RD, ya, yb, yc, yd, ye, yf, va, vb, vc, vd, ve, vf, r10, u10, s10, v10, rfl, rfl, HS0.out, H1.out, H2.out, H3.out, H4.out, XN.out, HB0.out, NB.out, NC.out, ND.out, fun _ => ⟨rfl, rfl, rfl⟩⟩
                  · have hvb : (EV == 0) = false := by simp [hv]
                    have HV := hide hv
                    clear hv
                    go_wp2
                    go_meet
                    case rel => exact ⟨(zeroSe, []), (zeroSe, []), zeroSe, none, 0, none, 0, none, 0, none, 0, none, 0, none, 0, none, 0, none, 0, by rfl, by rfl, HS0.out, H1.out, H2.out, H3.out, H4.out, XN.out, HB0.out, Z1.out, Z2.out, Z3.out, fun h => absurd h HV.out⟩
              case rest =>
                obtain ⟨Y, V, K, ya, yb, yc, yd, ye, yf, va, vb, vc, vd, ve, vf, ka, kb, kc, kd, rfl, rfl, HX⟩ := hcut
                clear HS0 H1 H2 H3 H4 Z1 Z2 Z3 HB0 XN XB XC XD HLT
                have HS0 := hide HX.out.1
                have H1 := hide HX.out.2.1
                have H2 := hide HX.out.2.2.1
                have H3 := hide HX.out.2.2.2.1
                have H4 := hide HX.out.2.2.2.2.1
                have XN := hide HX.out.2.2.2.2.2.1
                have HB0 := hide HX.out.2.2.2.2.2.2.1
                have YN := hide HX.out.2.2.2.2.2.2.2.1
                have VN := hide HX.out.2.2.2.2.2.2.2.2.1
                have KN := hide HX.out.2.2.2.2.2.2.2.2.2.1
                have YE := hide HX.out.2.2.2.2.2.2.2.2.2.2
                clear HX
                go_wp2_with fail
                refine (C0.out _ HB0.out).mono ?_
                rintro e v1 ⟨rfl, hb⟩
                have HS0 := hide (HS0.out.step hb)
                have H1 := hide (H1.out.step hb)
                have H2 := hide (H2.out.step hb)
                have H3 := hide (H3.out.step hb)
                have H4 := hide (H4.out.step hb)
                have XN := hide (XN.out.step hb)
                have YN := hide (YN.out.step hb)
                have VN := hide (VN.out.step hb)
                have KN := hide (KN.out.step hb)
                have HB0 := hide (below_step HB0.out hb)
                clear hb
                have x1 := HS0.out.box.cell
                go_wp2_with fail
                refine (CK.out _ HB0.out HS0.out.inn).mono ?_
                rintro e v2 ⟨rfl, hb⟩
                have HS0 := hide (HS0.out.step hb)
                have H1 := hide (H1.out.step hb)
                have H2 := hide (H2.out.step hb)
                have H3 := hide (H3.out.step hb)
                have H4 := hide (H4.out.step hb)
                have XN := hide (XN.out.step hb)
                have YN := hide (YN.out.step hb)
                have VN := hide (VN.out.step hb)
                have KN := hide (KN.out.step hb)
                have HB0 := hide (below_step HB0.out hb)
                clear hb
                clear x1 C0 CK
                have x1 := H1.out.box.cell
                have x2 := XN.out.box.cell
                go_wp2_with fail
                refine (sessionIs_yes RA X EW a1 d1 o1 xa xc xe c1 e1 n1 xb xd xf _ H1.out.inn H1.out.sp XN.out.inn XN.out.sp (XE.out) (EA.out) OA.out.1 OA.out.2.1 OA.out.2.2).mono ?_
                rintro e v3 ⟨rfl, hb⟩
                have HS0 := hide (HS0.out.step hb)
                have H1 := hide (H1.out.step hb)
                have H2 := hide (H2.out.step hb)
                have H3 := hide (H3.out.step hb)
                have H4 := hide (H4.out.step hb)
                have XN := hide (XN.out.step hb)
                have YN := hide (YN.out.step hb)
                have VN := hide (VN.out.step hb)
                have KN := hide (KN.out.step hb)
                have HB0 := hide (below_step HB0.out hb)
                clear hb
                clear x1 x2
                have x1 := H2.out.box.cell
                have x2 := YN.out.box.cell
                go_wp2_with fail
                refine (sessionIs_yes RB Y EV a2 d2 o2 ya yc ye c2 e2 n2 yb yd yf _ H2.out.inn H2.out.sp YN.out.inn YN.out.sp (fun h => (YE.out h).1) (EB.out) OB.out.1 OB.out.2.1 OB.out.2.2).mono ?_
                rintro e v4 ⟨rfl, hb⟩
                have HS0 := hide (HS0.out.step hb)
                have H1 := hide (H1.out.step hb)
                have H2 := hide (H2.out.step hb)
                have H3 := hide (H3.out.step hb)
                have H4 := hide (H4.out.step hb)
                have XN := hide (XN.out.step hb)
                have YN := hide (YN.out.step hb)
                have VN := hide (VN.out.step hb)
                have KN := hide (KN.out.step hb)
                have HB0 := hide (below_step HB0.out hb)
                clear hb
                clear x1 x2
                have x1 := H3.out.box.cell
                have x2 := VN.out.box.cell
                go_wp2_with fail
                refine (sessionIs_yes RC V EV a3 d3 o3 va vc ve c3 e3 n3 vb vd vf _ H3.out.inn H3.out.sp VN.out.inn VN.out.sp (fun h => (YE.out h).2.1) (EC.out) OC.out.1 OC.out.2.1 OC.out.2.2).mono ?_
                rintro e v5 ⟨rfl, hb⟩
                have HS0 := hide (HS0.out.step hb)
                have H1 := hide (H1.out.step hb)
                have H2 := hide (H2.out.step hb)
                have H3 := hide (H3.out.step hb)
                have H4 := hide (H4.out.step hb)
                have XN := hide (XN.out.step hb)
                have YN := hide (YN.out.step hb)
                have VN := hide (VN.out.step hb)
                have KN := hide (KN.out.step hb)
                have HB0 := hide (below_step HB0.out hb)
                clear hb
                clear x1 x2
                have x1 := H4.out.box.cell
                have x2 := KN.out.box.cell
                go_wp2_with fail
                refine (sessionIs_yes (RD, []) (K, []) EV a4 d4 none ka kc none c4 e4 0 kb kd 0 _ H4.out.inn H4.out.sp KN.out.inn KN.out.sp (fun h => by rw [(YE.out h).2.2]) (fun h => by rw [ED.out h]) okp_nil OD.out.1 OD.out.2).mono ?_
                rintro e v6 ⟨rfl, hb⟩
                have HS0 := hide (HS0.out.step hb)
                have H1 := hide (H1.out.step hb)
                have H2 := hide (H2.out.step hb)
                have H3 := hide (H3.out.step hb)
                have H4 := hide (H4.out.step hb)
                have XN := hide (XN.out.step hb)
                have YN := hide (YN.out.step hb)
                have VN := hide (VN.out.step hb)
                have KN := hide (KN.out.step hb)
                have HB0 := hide (below_step HB0.out hb)
                clear hb
                clear x1 x2
                go_wp2
                go_ret
                exact ⟨rfl, HB0.out⟩
end Go.Proofs.YtnhcecgmcmcioaaDoor
