/-
  The reference's SamePackets, SameFlights, SameSession; sessionIs: what they answer of what is the same.
-/
import Derived.Test.YtnhcecgmcmcioaaDoorSamePacket
import Derived.Test.YtnhcecgmcmcioaaDoorSesRefBase
import Derived.Deep.RegionHeld3
namespace Go.Proofs.YtnhcecgmcmcioaaDoor
open Go.RowKit Go.PlainAid

/-- packets without lists lie there -/
def SpIn (W : World) (ao : Option Addr) (L : List Pk) : Prop :=
  L = [] ∨ ∃ g o, ao = some ⟨g, o, none⟩ ∧ g < W.heap.size ∧ ∀ i (h : i < L.length) j u, (spC L[i])[j]? = some u → W.cell? ⟨g, o + i * 14 + j, none⟩ = some u
theorem SpIn.below {W W' : World} {ao : Option Addr} {L : List Pk} (h : SpIn W ao L) (hb : Below W.heap.size W W') : SpIn W' ao L := by
  rcases h with h | ⟨g, o, ha, hg, hc⟩
  · exact .inl h
  · exact .inr ⟨g, o, ha, Nat.lt_of_lt_of_le hg hb.size, fun i hi j u hu => (hb.cell (p := ⟨g, _, none⟩) hg).trans (hc i hi j u hu)⟩
theorem SpIn.here {W : World} {ao : Option Addr} {L : List Pk} {k : Nat} (h : SpIn W ao L) (hlt : k < L.length) : ∃ g o, ao = some ⟨g, o, none⟩ ∧ g < W.heap.size ∧ ∀ i (h : i < L.length) j u, (spC L[i])[j]? = some u → W.cell? ⟨g, o + i * 14 + j, none⟩ = some u := by
  rcases h with rfl | h
  · simp at hlt
  · exact h
theorem spCells_get (l : List Pk) (i j : Nat) (h : i < l.length) (hj : j < 14) : (spCells l)[i * 14 + j]? = (spC l[i])[j]? := by
  induction l generalizing i with
  | nil => simp at h
  | cons a l ih =>
    have e : spCells (a :: l) = spC a ++ spCells l := rfl
    rw [e]
    cases i with
    | zero => rw [List.getElem?_append_left (by simp [spC]; omega)]; simp
    | succ i =>
      rw [List.getElem?_append_right (by simp [spC]; omega), show (i + 1) * 14 + j - (spC a).length = i * 14 + j by simp [spC]; omega]
      exact ih i (by simpa using h)
theorem own_sp {W : World} {N : Nat} {ao : Option Addr} {n cs : Nat} {L : List Pk} (h : W.ownsRow N 57 14 (.slice ao n cs) n (spCells L)) (hn : n = L.length) : SpIn W ao L := by
  subst hn
  by_cases h0 : L = []
  · exact .inl h0
  · have hp := List.length_pos_iff.2 h0
    rcases h.2 with ⟨_, h1⟩ | ⟨g, cap, cur, hv, _, hg, _⟩
    · omega
    · injection hv with hv _ _
      subst hv
      refine .inr ⟨g, 0, rfl, (Array.getElem?_eq_some_iff.1 hg).1, fun i hi j u hu => ?_⟩
      have hj : j < 14 := by have := (List.getElem?_eq_some_iff.1 hu).1; simpa [spC] using this
      rw [Nat.zero_add, (kown_there h).1 _ (by omega), spCells_get L i j hi hj]
      exact hu
theorem sp_both {V : World} {g1 o1 g2 o2 k : Nat} {p : Pk} (h : ∀ j u, (spC p)[j]? = some u → V.cell? ⟨g1, o1 + k * 14 + j, none⟩ = some u) (h' : ∀ j u, (spC p)[j]? = some u → V.cell? ⟨g2, o2 + k * 14 + j, none⟩ = some u) :
    V.cell? ⟨g1, o1 + k * 14, none⟩ = some (.int .i64 p.kind) ∧ V.cell? ⟨g1, o1 + k * 14 + 1, none⟩ = some (.bool p.dup) ∧ V.cell? ⟨g1, o1 + k * 14 + 2, none⟩ = some (.bool p.retain) ∧ V.cell? ⟨g1, o1 + k * 14 + 3, none⟩ = some (.bool p.clean) ∧ V.cell? ⟨g1, o1 + k * 14 + 4, none⟩ = some (.bool p.session) ∧ V.cell? ⟨g1, o1 + k * 14 + 5, none⟩ = some (.int .i64 p.qos) ∧ V.cell? ⟨g1, o1 + k * 14 + 6, none⟩ = some (.int .i64 p.id) ∧ V.cell? ⟨g1, o1 + k * 14 + 7, none⟩ = some (.int .i64 p.keep) ∧ V.cell? ⟨g1, o1 + k * 14 + 8, none⟩ = some (.int .i64 p.code) ∧ V.cell? ⟨g1, o1 + k * 14 + 9, none⟩ = some (.string p.client) ∧ V.cell? ⟨g1, o1 + k * 14 + 10, none⟩ = some (.string p.topic) ∧ V.cell? ⟨g1, o1 + k * 14 + 11, none⟩ = some (.string p.payload) ∧ V.cell? ⟨g1, o1 + k * 14 + 12, none⟩ = some (.slice none 0 0) ∧ V.cell? ⟨g1, o1 + k * 14 + 13, none⟩ = some (.slice none 0 0) ∧ V.cell? ⟨g2, o2 + k * 14, none⟩ = some (.int .i64 p.kind) ∧ V.cell? ⟨g2, o2 + k * 14 + 1, none⟩ = some (.bool p.dup) ∧ V.cell? ⟨g2, o2 + k * 14 + 2, none⟩ = some (.bool p.retain) ∧ V.cell? ⟨g2, o2 + k * 14 + 3, none⟩ = some (.bool p.clean) ∧ V.cell? ⟨g2, o2 + k * 14 + 4, none⟩ = some (.bool p.session) ∧ V.cell? ⟨g2, o2 + k * 14 + 5, none⟩ = some (.int .i64 p.qos) ∧ V.cell? ⟨g2, o2 + k * 14 + 6, none⟩ = some (.int .i64 p.id) ∧ V.cell? ⟨g2, o2 + k * 14 + 7, none⟩ = some (.int .i64 p.keep) ∧ V.cell? ⟨g2, o2 + k * 14 + 8, none⟩ = some (.int .i64 p.code) ∧ V.cell? ⟨g2, o2 + k * 14 + 9, none⟩ = some (.string p.client) ∧ V.cell? ⟨g2, o2 + k * 14 + 10, none⟩ = some (.string p.topic) ∧ V.cell? ⟨g2, o2 + k * 14 + 11, none⟩ = some (.string p.payload) ∧ V.cell? ⟨g2, o2 + k * 14 + 12, none⟩ = some (.slice none 0 0) ∧ V.cell? ⟨g2, o2 + k * 14 + 13, none⟩ = some (.slice none 0 0) :=
  ⟨h 0 _ rfl, h 1 _ rfl, h 2 _ rfl, h 3 _ rfl, h 4 _ rfl, h 5 _ rfl, h 6 _ rfl, h 7 _ rfl, h 8 _ rfl, h 9 _ rfl, h 10 _ rfl, h 11 _ rfl, h 12 _ rfl, h 13 _ rfl, h' 0 _ rfl, h' 1 _ rfl, h' 2 _ rfl, h' 3 _ rfl, h' 4 _ rfl, h' 5 _ rfl, h' 6 _ rfl, h' 7 _ rfl, h' 8 _ rfl, h' 9 _ rfl, h' 10 _ rfl, h' 11 _ rfl, h' 12 _ rfl, h' 13 _ rfl⟩

set_option maxHeartbeats 8000000 in
set_option maxRecDepth 100000 in
theorem sameSp_yes (L : List Pk) (aa ab : Option Addr) (ca cb : Nat) (w : World) (h1 : SpIn w aa L) (h2 : SpIn w ab L) (hr : ∀ p ∈ L, p.asks = [] ∧ p.codes = []) (hn : L.length ≤ 1048576) :
    Calls Tryd.prog 43 #[.slice aa L.length ca, .slice ab L.length cb] w fun e w' => e = .returned (.bool true) ∧ Below w.heap.size w w' := by
  have H1 := hide h1
  have H2 := hide h2
  have HR := hide hr
  clear h1 h2 hr
  go_enter Tryd.func43, Tryd.ntmps43
  go_wp2
  go_loopw [5] (fun x wr => ∃ k : Nat, k ≤ L.length ∧ x = .int .i64 k ∧ Hid (Below w.heap.size w wr)) (fun x _ => L.length - (intOf x).toNat)
  case atStart => exact ⟨0, Nat.zero_le _, rfl, Below.refl _ _⟩
  case round =>
    obtain ⟨k, hk, rfl, HB⟩ := hrel
    by_cases hlt : k < L.length
    · obtain ⟨g1, o1, rfl, hg1, hc1⟩ := H1.out.here hlt
      obtain ⟨g2, o2, rfl, hg2, hc2⟩ := H2.out.here hlt
      have hc1 := hc1 k hlt
      have hc2 := hc2 k hlt
      have hrr := HR.out _ (List.getElem_mem hlt)
      have hlt' : (k : Int) < L.length := by omega
      clear H1 H2 HR
      generalize L[k] = p at *
      have HK : Hid (∀ V, Below w.heap.size w V → V.cell? ⟨g1, o1 + k * 14, none⟩ = some (.int .i64 p.kind) ∧ V.cell? ⟨g1, o1 + k * 14 + 1, none⟩ = some (.bool p.dup) ∧ V.cell? ⟨g1, o1 + k * 14 + 2, none⟩ = some (.bool p.retain) ∧ V.cell? ⟨g1, o1 + k * 14 + 3, none⟩ = some (.bool p.clean) ∧ V.cell? ⟨g1, o1 + k * 14 + 4, none⟩ = some (.bool p.session) ∧ V.cell? ⟨g1, o1 + k * 14 + 5, none⟩ = some (.int .i64 p.qos) ∧ V.cell? ⟨g1, o1 + k * 14 + 6, none⟩ = some (.int .i64 p.id) ∧ V.cell? ⟨g1, o1 + k * 14 + 7, none⟩ = some (.int .i64 p.keep) ∧ V.cell? ⟨g1, o1 + k * 14 + 8, none⟩ = some (.int .i64 p.code) ∧ V.cell? ⟨g1, o1 + k * 14 + 9, none⟩ = some (.string p.client) ∧ V.cell? ⟨g1, o1 + k * 14 + 10, none⟩ = some (.string p.topic) ∧ V.cell? ⟨g1, o1 + k * 14 + 11, none⟩ = some (.string p.payload) ∧ V.cell? ⟨g1, o1 + k * 14 + 12, none⟩ = some (.slice none 0 0) ∧ V.cell? ⟨g1, o1 + k * 14 + 13, none⟩ = some (.slice none 0 0) ∧ V.cell? ⟨g2, o2 + k * 14, none⟩ = some (.int .i64 p.kind) ∧ V.cell? ⟨g2, o2 + k * 14 + 1, none⟩ = some (.bool p.dup) ∧ V.cell? ⟨g2, o2 + k * 14 + 2, none⟩ = some (.bool p.retain) ∧ V.cell? ⟨g2, o2 + k * 14 + 3, none⟩ = some (.bool p.clean) ∧ V.cell? ⟨g2, o2 + k * 14 + 4, none⟩ = some (.bool p.session) ∧ V.cell? ⟨g2, o2 + k * 14 + 5, none⟩ = some (.int .i64 p.qos) ∧ V.cell? ⟨g2, o2 + k * 14 + 6, none⟩ = some (.int .i64 p.id) ∧ V.cell? ⟨g2, o2 + k * 14 + 7, none⟩ = some (.int .i64 p.keep) ∧ V.cell? ⟨g2, o2 + k * 14 + 8, none⟩ = some (.int .i64 p.code) ∧ V.cell? ⟨g2, o2 + k * 14 + 9, none⟩ = some (.string p.client) ∧ V.cell? ⟨g2, o2 + k * 14 + 10, none⟩ = some (.string p.topic) ∧ V.cell? ⟨g2, o2 + k * 14 + 11, none⟩ = some (.string p.payload) ∧ V.cell? ⟨g2, o2 + k * 14 + 12, none⟩ = some (.slice none 0 0) ∧ V.cell? ⟨g2, o2 + k * 14 + 13, none⟩ = some (.slice none 0 0)) := fun V hV => sp_both (fun j u hu => (hV.cell (p := ⟨g1, _, none⟩) hg1).trans (hc1 j u hu)) (fun j u hu => (hV.cell (p := ⟨g2, _, none⟩) hg2).trans (hc2 j u hu))
      have CS : Hid (∀ V, Below w.heap.size w V → Calls Tryd.prog 54 #[.agg #[.int .i64 p.kind, .bool p.dup, .bool p.retain, .bool p.clean, .bool p.session, .int .i64 p.qos, .int .i64 p.id, .int .i64 p.keep, .int .i64 p.code, .string p.client, .string p.topic, .string p.payload, .slice none 0 0, .slice none 0 0], .agg #[.int .i64 p.kind, .bool p.dup, .bool p.retain, .bool p.clean, .bool p.session, .int .i64 p.qos, .int .i64 p.id, .int .i64 p.keep, .int .i64 p.code, .string p.client, .string p.topic, .string p.payload, .slice none 0 0, .slice none 0 0]] V fun e w' => e = .returned (.bool true) ∧ Below V.heap.size V w') := fun V _ => by
        have := same_yes p none none none none 0 0 0 0 V ⟨.inl hrr.1, .inl hrr.2⟩ ⟨.inl hrr.1, .inl hrr.2⟩ (by rw [hrr.1]; simp) (by rw [hrr.2]; simp)
        simp only [pkV] at this
        rw [hrr.1, hrr.2] at this
        exact this
      clear hc1 hc2 hg1 hg2 hrr
      go_wp2_with fail
      have HBw := HB
      have HB := hide (below_step HB.out (Below.drew (Below.refl _ _)))
      go_region_held3 (fun w' => w'.cell? ⟨g1, o1 + k * 14, none⟩ = some (.int .i64 p.kind) ∧ w'.cell? ⟨g1, o1 + k * 14 + 1, none⟩ = some (.bool p.dup) ∧ w'.cell? ⟨g1, o1 + k * 14 + 2, none⟩ = some (.bool p.retain) ∧ w'.cell? ⟨g1, o1 + k * 14 + 3, none⟩ = some (.bool p.clean) ∧ w'.cell? ⟨g1, o1 + k * 14 + 4, none⟩ = some (.bool p.session) ∧ w'.cell? ⟨g1, o1 + k * 14 + 5, none⟩ = some (.int .i64 p.qos) ∧ w'.cell? ⟨g1, o1 + k * 14 + 6, none⟩ = some (.int .i64 p.id) ∧ w'.cell? ⟨g1, o1 + k * 14 + 7, none⟩ = some (.int .i64 p.keep) ∧ w'.cell? ⟨g1, o1 + k * 14 + 8, none⟩ = some (.int .i64 p.code) ∧ w'.cell? ⟨g1, o1 + k * 14 + 9, none⟩ = some (.string p.client) ∧ w'.cell? ⟨g1, o1 + k * 14 + 10, none⟩ = some (.string p.topic) ∧ w'.cell? ⟨g1, o1 + k * 14 + 11, none⟩ = some (.string p.payload) ∧ w'.cell? ⟨g1, o1 + k * 14 + 12, none⟩ = some (.slice none 0 0) ∧ w'.cell? ⟨g1, o1 + k * 14 + 13, none⟩ = some (.slice none 0 0) ∧ w'.cell? ⟨g2, o2 + k * 14, none⟩ = some (.int .i64 p.kind) ∧ w'.cell? ⟨g2, o2 + k * 14 + 1, none⟩ = some (.bool p.dup) ∧ w'.cell? ⟨g2, o2 + k * 14 + 2, none⟩ = some (.bool p.retain) ∧ w'.cell? ⟨g2, o2 + k * 14 + 3, none⟩ = some (.bool p.clean) ∧ w'.cell? ⟨g2, o2 + k * 14 + 4, none⟩ = some (.bool p.session) ∧ w'.cell? ⟨g2, o2 + k * 14 + 5, none⟩ = some (.int .i64 p.qos) ∧ w'.cell? ⟨g2, o2 + k * 14 + 6, none⟩ = some (.int .i64 p.id) ∧ w'.cell? ⟨g2, o2 + k * 14 + 7, none⟩ = some (.int .i64 p.keep) ∧ w'.cell? ⟨g2, o2 + k * 14 + 8, none⟩ = some (.int .i64 p.code) ∧ w'.cell? ⟨g2, o2 + k * 14 + 9, none⟩ = some (.string p.client) ∧ w'.cell? ⟨g2, o2 + k * 14 + 10, none⟩ = some (.string p.topic) ∧ w'.cell? ⟨g2, o2 + k * 14 + 11, none⟩ = some (.string p.payload) ∧ w'.cell? ⟨g2, o2 + k * 14 + 12, none⟩ = some (.slice none 0 0) ∧ w'.cell? ⟨g2, o2 + k * 14 + 13, none⟩ = some (.slice none 0 0)) (first | with_reducible exact HK.out _ HB.out | with_reducible exact HK.out _ HBw.out | go_keep)
        (first
        | (go_at_call 54; refine (CS.out _ HB.out).mono ?_; rintro e ws ⟨rfl, hbs⟩; have HB := hide (below_step HB.out hbs); clear hbs)
        | fail)
      all_goals
        clear HK CS
        go_wp2
        go_round
        case rel => exact ⟨k + 1, by omega, by go_num, HB⟩
        case measure => simp [intOf]; omega
    · have hge : (L.length : Int) ≤ k := by omega
      go_wp2
      go_ret
      exact ⟨rfl, HB.out⟩

set_option maxHeartbeats 2000000 in
theorem sameFls_yes (l : List Fl) (ap ao : Option Addr) (cp co : Nat) (w : World) (hp : FlsIn w ap l) (hl : FlsIn w ao l) (hn : l.length ≤ 1048576) :
    Calls Tryd.prog 53 #[.slice ap l.length cp, .slice ao l.length co] w fun e w' => e = .returned (.bool true) ∧ Below w.heap.size w w' := by
  have HP := hide hp
  have HL := hide hl
  clear hp hl
  go_enter Tryd.func53, Tryd.ntmps53
  go_wp2
  go_loopw [5] (fun i wr => ∃ k : Nat, k ≤ l.length ∧ i = .int .i64 k ∧ Hid (Below w.heap.size w wr)) (fun i _ => l.length - (intOf i).toNat)
  case atStart => exact ⟨0, by omega, rfl, Below.refl _ _⟩
  case round =>
    obtain ⟨k, hk, rfl, HR⟩ := hrel
    by_cases hlt : k < l.length
    · obtain ⟨b, o, rfl, hb, hcell⟩ := fls_here HL.out hlt
      obtain ⟨b', o', rfl, hb', hcell'⟩ := fls_here HP.out hlt
      have hk1 : wr.cell? ⟨b, o + k * 3, none⟩ = some (.int .i64 l[k].id) := by rw [HR.out.cell (p := ⟨b, _, none⟩) hb]; exact (hcell k hlt).1
      have hk2 : wr.cell? ⟨b, o + k * 3 + 1, none⟩ = some (.string l[k].topic) := by rw [HR.out.cell (p := ⟨b, _, none⟩) hb]; exact (hcell k hlt).2.1
      have hk3 : wr.cell? ⟨b, o + k * 3 + 2, none⟩ = some (.string l[k].load) := by rw [HR.out.cell (p := ⟨b, _, none⟩) hb]; exact (hcell k hlt).2.2
      have hj1 : wr.cell? ⟨b', o' + k * 3, none⟩ = some (.int .i64 l[k].id) := by rw [HR.out.cell (p := ⟨b', _, none⟩) hb']; exact (hcell' k hlt).1
      have hj2 : wr.cell? ⟨b', o' + k * 3 + 1, none⟩ = some (.string l[k].topic) := by rw [HR.out.cell (p := ⟨b', _, none⟩) hb']; exact (hcell' k hlt).2.1
      have hj3 : wr.cell? ⟨b', o' + k * 3 + 2, none⟩ = some (.string l[k].load) := by rw [HR.out.cell (p := ⟨b', _, none⟩) hb']; exact (hcell' k hlt).2.2
      clear hcell hcell' HL HP
      generalize l[k].topic = t at *
      generalize l[k].load = q at *
      generalize l[k].id = p at *
      go_wp2_with fail
      go_big_quiet (fail)
      go_wp2
      go_round
      case rel => exact ⟨k + 1, by omega, by go_num, kbelow_drewN HR.out _⟩
      case measure => simp [intOf]; omega
    · go_wp2
      go_ret
      exact ⟨rfl, HR.out⟩

set_option maxHeartbeats 4000000 in
set_option maxRecDepth 100000 in
theorem sameSes_yes (s : Se) (a1 a2 x1 x2 : Option Addr) (c1 c2 y1 y2 : Nat) (w : World) (h1 : SeIn w s a1 a2) (h2 : SeIn w s x1 x2) (hf : s.fl.length ≤ 1048576) (hq : s.qu.length ≤ 1048576) :
    Calls Tryd.prog 42 #[seV s a1 c1 a2 c2, seV s x1 y1 x2 y2] w fun e w' => e = .returned (.bool true) ∧ Below w.heap.size w w' := by
  have CF : Hid (∀ V, Below w.heap.size w V → Calls Tryd.prog 53 #[.slice a1 s.fl.length c1, .slice x1 s.fl.length y1] V fun e w' => e = .returned (.bool true) ∧ Below V.heap.size V w') := fun V hV => sameFls_yes s.fl a1 x1 c1 y1 V (h1.1.below hV) (h2.1.below hV) hf
  have CQ : Hid (∀ V, Below w.heap.size w V → Calls Tryd.prog 53 #[.slice a2 s.qu.length c2, .slice x2 s.qu.length y2] V fun e w' => e = .returned (.bool true) ∧ Below V.heap.size V w') := fun V hV => sameFls_yes s.qu a2 x2 c2 y2 V (h1.2.below hV) (h2.2.below hV) hq
  have HB0 := hide (((Below.refl w.heap.size w).alloc (Nat.le_refl _) (.cells #[.string s.client, .bool s.on, .bool s.clean, .slice a1 s.fl.length c1, .slice a2 s.qu.length c2, .int .i64 s.next] 24)).alloc (by simp) (.cells #[.string s.client, .bool s.on, .bool s.clean, .slice x1 s.fl.length y1, .slice x2 s.qu.length y2, .int .i64 s.next] 24))
  have D1 : Hid (SAt w.heap.size s (.slice a1 s.fl.length c1) (.slice a2 s.qu.length c2) ((w.alloc (.cells #[.string s.client, .bool s.on, .bool s.clean, .slice a1 s.fl.length c1, .slice a2 s.qu.length c2, .int .i64 s.next] 24)).alloc (.cells #[.string s.client, .bool s.on, .bool s.clean, .slice x1 s.fl.length y1, .slice x2 s.qu.length y2, .int .i64 s.next] 24))) := by
    show _ = _; rw [Below.heap_alloc _ _ _ (by simp)]; exact sat_new s _ _ w
  have D2 : Hid (SAt (w.heap.size + 1) s (.slice x1 s.fl.length y1) (.slice x2 s.qu.length y2) ((w.alloc (.cells #[.string s.client, .bool s.on, .bool s.clean, .slice a1 s.fl.length c1, .slice a2 s.qu.length c2, .int .i64 s.next] 24)).alloc (.cells #[.string s.client, .bool s.on, .bool s.clean, .slice x1 s.fl.length y1, .slice x2 s.qu.length y2, .int .i64 s.next] 24))) := by
    have := sat_new s (.slice x1 s.fl.length y1) (.slice x2 s.qu.length y2) (w.alloc (.cells #[.string s.client, .bool s.on, .bool s.clean, .slice a1 s.fl.length c1, .slice a2 s.qu.length c2, .int .i64 s.next] 24))
    simp only [World.size_alloc] at this
    exact this
  clear h1 h2
  simp only [seV]
  go_enter Tryd.func42, Tryd.ntmps42
  go_upto_region 1 with fail
  revert HB0 D1 D2
  generalize (w.alloc (.cells #[.string s.client, .bool s.on, .bool s.clean, .slice a1 s.fl.length c1, .slice a2 s.qu.length c2, .int .i64 s.next] 24)).alloc (.cells #[.string s.client, .bool s.on, .bool s.clean, .slice x1 s.fl.length y1, .slice x2 s.qu.length y2, .int .i64 s.next] 24) = W0
  intro HB0 D1 D2
  have e1 := D1.out.cell
  have e2 := D2.out.cell
  go_wp2_with fail
  refine (CF.out _ HB0.out).mono ?_
  rintro e w1 ⟨rfl, hb⟩
  have HB1 := hide (below_step HB0.out hb)
  have D1 := hide (D1.out.after hb)
  have D2 := hide (D2.out.after hb)
  clear hb HB0 e1 e2
  have e1 := D1.out.cell
  have e2 := D2.out.cell
  go_wp2_with fail
  refine (CQ.out _ HB1.out).mono ?_
  rintro e w2 ⟨rfl, hb⟩
  have HB2 := hide (below_step HB1.out hb)
  clear hb HB1 e1 e2
  go_wp2
  go_ret
  exact ⟨rfl, HB2.out⟩
end Go.Proofs.YtnhcecgmcmcioaaDoor
