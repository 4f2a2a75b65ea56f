/-
  session's Go$1, Come$1: what they leave of a sender.
-/
import Derived.Test.YtnhcecgmcmcioaaDoorSesQueue
namespace Go.Proofs.YtnhcecgmcmcioaaDoor
open Go.RowKit Go.PlainAid

/-- a client is not there any more -/
def goS (s : Se) : Se := if s.clean = true then { s with on := false, fl := [], qu := [] } else { s with on := false }

section
variable {N b M : Nat} {s : Se} {va vb vs : Value} {L : List Pk} {w W W' : World}
theorem Sq.put (h : Sq N b s va vb vs L M w W) (o : Nat) (x : Value) {s' : Se} {va' vb' : Value} (hbox : NAt b s' va' vb' vs (W.setCell ⟨b, o, none⟩ x)) (hf : W.ownsRow N 46 3 va' s'.fl.length (flCells s'.fl)) (hlt : ∀ k, va'.ownBlock = some k → k < M) (hq : W.ownsRow M 46 3 vb' s'.qu.length (flCells s'.qu)) : Sq N b s' va' vb' vs L M w (W.setCell ⟨b, o, none⟩ x) := by
  refine ⟨hbox, kown_kept hf fun g hgg => Below.heap_setCell _ _ _ _ (fun e => kown_ne hf h.box (by decide) (by rw [hgg]; exact congrArg some e)), hlt, kown_kept hq fun g hgg => Below.heap_setCell _ _ _ _ (fun e => kown_ne hq h.box (by decide) (by rw [hgg]; exact congrArg some e)), kown_kept h.sent fun g hgg => Below.heap_setCell _ _ _ _ (fun e => kown_ne h.sent h.box (by decide) (by rw [hgg]; exact congrArg some e)), h.bel.setCell h.le _, h.le, h.nm, ?_⟩
  have := h.hm; simp [World.setCell]; omega
theorem Sq.putOn (h : Sq N b s va vb vs L M w W) (v : Bool) : Sq N b { s with on := v } va vb vs L M w (W.setCell ⟨b, 1, none⟩ (.bool v)) :=
  h.put 1 _ (by have := h.box; unfold NAt at *; simp [World.setCell, Array.getElem?_modify, this]) h.fl h.lt h.qu
theorem Sq.nilFl (h : Sq N b s va vb vs L M w W) : Sq N b { s with fl := [] } (.slice none 0 0) vb vs L M w (W.setCell ⟨b, 3, none⟩ (.slice none 0 0)) :=
  h.put 3 _ (by have := h.box; unfold NAt at *; simp [World.setCell, Array.getElem?_modify, this]) (World.ownsRow_nil _ _ _ _) (fun k hk => by cases hk) h.qu
theorem Sq.nilQu (h : Sq N b s va vb vs L M w W) : Sq N b { s with qu := [] } va (.slice none 0 0) vs L M w (W.setCell ⟨b, 4, none⟩ (.slice none 0 0)) :=
  h.put 4 _ (by have := h.box; unfold NAt at *; simp [World.setCell, Array.getElem?_modify, this]) h.fl h.lt (World.ownsRow_nil _ _ _ _)
end

set_option maxHeartbeats 4000000 in
theorem goAct_any (N b M : Nat) (s : Se) (vs : Value) (aa ab : Option Addr) (ca cb : Nat) (L : List Pk) (w W : World) (hs : Sq N b s (.slice aa s.fl.length ca) (.slice ab s.qu.length cb) vs L M w W) :
    Calls Tryd.prog 29 #[.pointer (some ⟨b, 0, none⟩)] W fun e W' => e = .returned (.tuple #[]) ∧ ∃ aa' ca' ab' cb', Sq N b (goS s) (.slice aa' (goS s).fl.length ca') (.slice ab' (goS s).qu.length cb') vs L M w W' := by
  have HS := hide hs
  have HR : Hid (goS s = if s.clean = true then { s with on := false, fl := [], qu := [] } else { s with on := false }) := rfl
  generalize goS s = R at *
  clear hs
  obtain ⟨cl, on, clean, fl, qu, nx⟩ := s
  simp only at HS HR
  have f1 : W.frozen? ⟨b, 1, none⟩ = false := HS.out.box.frozen 1
  have x1 : W.cell? ⟨b, 1, none⟩ = some (.bool on) := HS.out.box.cell 1
  go_enter Tryd.func29, Tryd.ntmps29
  go_upto_region 1 with fail
  have HS1 := hide (HS.out.putOn false)
  simp only at HS1
  revert HS1
  generalize W.setCell ⟨b, 1, none⟩ (.bool false) = W1
  intro HS1
  clear HS x1 f1
  have x2 : W1.cell? ⟨b, 2, none⟩ = some (.bool clean) := HS1.out.box.cell 2
  have x3 : W1.cell? ⟨b, 3, none⟩ = some (.slice aa fl.length ca) := HS1.out.box.cell 3
  have x4 : W1.cell? ⟨b, 4, none⟩ = some (.slice ab qu.length cb) := HS1.out.box.cell 4
  have f3 : W1.frozen? ⟨b, 3, none⟩ = false := HS1.out.box.frozen 3
  have f4 : W1.frozen? ⟨b, 4, none⟩ = false := HS1.out.box.frozen 4
  cases clean with
  | false =>
    have HQ := hide (HR.out.trans (if_neg (by decide)))
    clear HR
    go_wp2
    go_end0
    exact ⟨rfl, aa, ca, ab, cb, by rw [HQ.out]; exact HS1.out⟩
  | true =>
    have HQ := hide (HR.out.trans (if_pos rfl))
    clear HR
    have HS3 := hide (HS1.out.nilFl.nilQu)
    simp only at HS3
    go_wp2
    go_end0
    exact ⟨rfl, none, 0, none, 0, by rw [HQ.out]; exact HS3.out⟩

set_option maxHeartbeats 8000000 in
set_option maxRecDepth 100000 in
theorem comeAct_any (N b M : Nat) (s : Se) (aa ab : Option Addr) (ca cb : Nat) (w W : World) (hs : Sq N b s (.slice aa s.fl.length ca) (.slice ab s.qu.length cb) (.slice none 0 0) [] M w W) (hl : s.fl.length ≤ 3) (hn : 1 ≤ s.next ∧ s.next ≤ 65535) (hqn : s.qu.length ≤ 1048576) (hz : ∀ f, f ∈ s.fl ∨ f ∈ s.qu → f.topic.size ≤ 281474976710656 ∧ f.load.size ≤ 281474976710656) :
    Calls Tryd.prog 27 #[.pointer (some ⟨b, 0, none⟩)] W fun e W' => e = .returned (.tuple #[]) ∧ ∃ aa' ca' ab' cb' ao' cs', Sd N b (flyS 3 { s with on := true } (s.fl.map (flP · true))).1 (.slice aa' (flyS 3 { s with on := true } (s.fl.map (flP · true))).1.fl.length ca') ab' cb' (.slice ao' (flyS 3 { s with on := true } (s.fl.map (flP · true))).2.length cs') (flyS 3 { s with on := true } (s.fl.map (flP · true))).2 w W' := by
  have HS := hide hs
  obtain ⟨cl, on, clean, fl, qu, nx⟩ := s
  simp only at HS hl hn hqn hz ⊢
  have CY := hide (fun (ab : Option Addr) (cb : Nat) (ao : Option Addr) (cs : Nat) V (h : Sd N b ⟨cl, true, clean, fl, qu, nx⟩ (.slice aa fl.length ca) ab cb (.slice ao (fl.map (flP · true)).length cs) (fl.map (flP · true)) w V) => fly_any N b ⟨cl, true, clean, fl, qu, nx⟩ aa ca ab cb ao cs (fl.map (flP · true)) w V h hl hn (by rw [List.length_map]; omega) hqn (fun f hf => hz f (.inr hf)))
  generalize flyS 3 (⟨cl, true, clean, fl, qu, nx⟩ : Se) (fl.map (flP · true)) = R at *
  have HZ := hide (fun f (hf : f ∈ fl) => hz f (.inl hf))
  clear hs hz hn hqn
  have f1 : W.frozen? ⟨b, 1, none⟩ = false := HS.out.box.frozen 1
  have x1 : W.cell? ⟨b, 1, none⟩ = some (.bool on) := HS.out.box.cell 1
  go_enter Tryd.func27, Tryd.ntmps27
  go_upto_region 1 with fail
  have HS1 := hide (HS.out.putOn true).toSd
  simp only at HS1
  revert HS1
  generalize W.setCell ⟨b, 1, none⟩ (.bool true) = W1
  intro HS1
  clear HS x1 f1
  have x3 : W1.cell? ⟨b, 3, none⟩ = some (.slice aa fl.length ca) := HS1.out.box.cell 3
  have hli : (fl.length : Int) ≤ 3 := by omega
  go_wp2
  go_loopw [14] (fun i wr => ∃ (k : Nat) (ao : Option Addr) (cs : Nat), k ≤ fl.length ∧ i = .int .i64 k ∧ Hid (Sd N b ⟨cl, true, clean, fl, qu, nx⟩ (.slice aa fl.length ca) ab cb (.slice ao ((fl.take k).map (flP · true)).length cs) ((fl.take k).map (flP · true)) w wr)) (fun i _ => fl.length - (intOf i).toNat)
  case atStart => exact ⟨0, none, 0, by omega, rfl, HS1⟩
  case round =>
    obtain ⟨k, ao, cs, hk, rfl, HI⟩ := hrel
    clear HS1 x3
    by_cases hlt : k < fl.length
    · obtain ⟨g, o, ha, hb, hcell⟩ := fls_here HI.out.flights hlt
      subst ha
      obtain ⟨hk1, hk2, hk3⟩ := hcell k hlt
      have HTK := hide (List.take_succ_eq_append_getElem hlt)
      have hzz := HZ.out fl[k] (List.getElem_mem hlt)
      have C := hide (fun V (h : Sd N b ⟨cl, true, clean, fl, qu, nx⟩ (.slice (some ⟨g, o, none⟩) fl.length ca) ab cb (.slice ao ((fl.take k).map (flP · true)).length cs) ((fl.take k).map (flP · true)) w V) => sendFlight_any N b _ _ ab cb ao cs _ w V fl[k] true h (by rw [List.length_map, List.length_take]; omega) hzz.1 hzz.2)
      have HA := hide (HI.out.alloc (.cells #[.int .i64 fl[k].id, .string fl[k].topic, .string fl[k].load] 46))
      clear hcell HZ hzz HI CY
      generalize fl[k] = x at *
      obtain ⟨n, t, p⟩ := x
      simp only [flV] at hk1 hk2 hk3 C HA
      have hlt' : (k : Int) < fl.length := by omega
      go_upto_region 4 with fail
      have d0 := fl_cells wr (.int .i64 n) (.string t) (.string p)
      revert HA d0
      generalize wr.alloc (.cells #[.int .i64 n, .string t, .string p] 46) = W2
      intro HA d0
      go_wp2_with fail
      refine (C.out _ HA.out).mono ?_
      rintro e w3 ⟨rfl, a', c', hs3⟩
      have HN : Hid (Sd N b ⟨cl, true, clean, fl, qu, nx⟩ (.slice (some ⟨g, o, none⟩) fl.length ca) ab cb (.slice a' ((fl.take (k + 1)).map (flP · true)).length c') ((fl.take (k + 1)).map (flP · true)) w w3) := by
        rw [HTK.out, List.map_append, List.length_append]
        exact hs3
      clear hs3 HA C d0 HTK
      go_wp2
      go_round
      case rel => exact ⟨k + 1, a', c', by omega, by go_num, HN⟩
      case measure => simp [intOf]; omega
    · have hge : (fl.length : Int) ≤ k := by omega
      have hkk : k = fl.length := by omega
      have HF : Hid (Sd N b ⟨cl, true, clean, fl, qu, nx⟩ (.slice aa fl.length ca) ab cb (.slice ao (fl.map (flP · true)).length cs) (fl.map (flP · true)) w wr) := by
        have := HI.out
        rw [hkk, List.take_length] at this
        exact this
      have C := hide (CY.out ab cb ao cs)
      clear HI HZ CY hkk
      go_wp2_with fail
      refine (C.out _ HF.out).mono ?_
      rintro e w4 ⟨rfl, hr⟩
      have HR := hide hr
      clear hr C HF
      go_wp2
      go_end0
      exact ⟨rfl, HR.out⟩
end Go.Proofs.YtnhcecgmcmcioaaDoor
