/-
  session's Landed$1, Send$1: what they leave of a sender; checkAsked.
-/
import Derived.Test.YtnhcecgmcmcioaaDoorSesDel
import Derived.Test.YtnhcecgmcmcioaaDoorSesActs
namespace Go.Proofs.YtnhcecgmcmcioaaDoor
open Go.RowKit Go.PlainAid

section
variable {N b M : Nat} {s : Se} {va vb vs : Value} {L : List Pk} {w W W' : World}
/-- what is left of what flies, and its new value is stored -/
theorem Sq.putFl (h : Sq N b s va vb vs L M w W) (hg : W.grownBy W' va.ownBlock) {v' : Value} {fl : List Fl} (hown : W'.ownsRow N 46 3 v' fl.length (flCells fl)) (hat : v'.ownBlock = va.ownBlock) : Sq N b { s with fl := fl } v' vb vs L M w (W'.setCell ⟨b, 3, none⟩ v') := by
  have hlt := h.box.lt
  have b1 : NAt b s va vb vs W' := by
    have := h.box
    have hne := kown_ne h.fl this (by decide)
    unfold NAt at *
    rw [hg.block b hlt (fun e => hne e.symm)]; exact this
  have q1 : W'.ownsRow M 46 3 vb s.qu.length (flCells s.qu) := kown_kept h.qu fun g hgg => hg.block g (kown_lt h.qu hgg) (fun e => by
    have h1 := h.lt g e.symm
    have h2 := (kown_at h.qu hgg).1
    omega)
  have s1 : W'.ownsRow N 57 14 vs L.length (spCells L) := kown_kept h.sent fun g hgg => hg.block g (kown_lt h.sent hgg) (fun e => by
    obtain ⟨_, cur, hc⟩ := kown_at h.sent hgg
    exact kown_ne h.fl hc (by decide) e.symm)
  have bel1 : Below N w W' := Below.grown h.bel hg (by have := h.le; omega) (fun g hgg => (kown_at h.fl hgg).1)
  refine ⟨?_, kown_kept hown fun g hgg => Below.heap_setCell _ _ _ _ (fun e => kown_ne hown b1 (by decide) (by rw [hgg]; exact congrArg some e)), fun k hk => h.lt k (by rw [← hat]; exact hk), kown_kept q1 fun g hgg => Below.heap_setCell _ _ _ _ (fun e => kown_ne q1 b1 (by decide) (by rw [hgg]; exact congrArg some e)), kown_kept s1 fun g hgg => Below.heap_setCell _ _ _ _ (fun e => kown_ne s1 b1 (by decide) (by rw [hgg]; exact congrArg some e)), bel1.setCell h.le _, h.le, h.nm, ?_⟩
  · unfold NAt at *; simp [World.setCell, Array.getElem?_modify, b1]
  · have := hg.size; have := h.hm; simp [World.setCell]; omega
end

/-- a flight has landed -/
def landS (id : Int) (s : Se) : Se × List Pk := flyS 3 { s with fl := offF id s.fl } []
theorem offF_len (id : Int) (l : List Fl) : (offF id l).length ≤ l.length := List.length_filter_le _ _

set_option maxHeartbeats 8000000 in
set_option maxRecDepth 100000 in
theorem landAct_any (N b M c : Nat) (id : Int) (s : Se) (aa ab : Option Addr) (ca cb : Nat) (w W : World) (hs : Sq N b s (.slice aa s.fl.length ca) (.slice ab s.qu.length cb) (.slice none 0 0) [] M w W) (hA : W.heap[c]? = some (.cells #[.int .i64 id] 3 (0, 0))) (hl : s.fl.length ≤ 3) (hn : 1 ≤ s.next ∧ s.next ≤ 65535) (hqn : s.qu.length ≤ 1048576) (hz : ∀ f, f ∈ s.fl ∨ f ∈ s.qu → f.topic.size ≤ 281474976710656 ∧ f.load.size ≤ 281474976710656) :
    Calls Tryd.prog 24 #[.pointer (some ⟨b, 0, none⟩), .pointer (some ⟨c, 0, none⟩)] W fun e W' => e = .returned (.tuple #[]) ∧ ∃ aa' ca' ab' cb' ao' cs', Sd N b (landS id s).1 (.slice aa' (landS id s).1.fl.length ca') ab' cb' (.slice ao' (landS id s).2.length cs') (landS id s).2 w W' := by
  have HS := hide hs
  obtain ⟨cl, on, clean, fl, qu, nx⟩ := s
  simp only at HS hl hn hqn hz ⊢
  have CD := hide (fdel_any N fl aa ca c id W HS.out.fl hA (by omega))
  have hle := offF_len id fl
  have CY := hide (fun V (h : Sd N b ⟨cl, on, clean, offF id fl, qu, nx⟩ (.slice aa (offF id fl).length ca) ab cb (.slice none ([] : List Pk).length 0) [] w V) => fly_any N b ⟨cl, on, clean, offF id fl, qu, nx⟩ aa ca ab cb none 0 [] w V h (by show (offF id fl).length ≤ 3; omega) hn (by simp) hqn (fun f hf => hz f (.inr hf)))
  have HR : Hid (landS id ⟨cl, on, clean, fl, qu, nx⟩ = flyS 3 ⟨cl, on, clean, offF id fl, qu, nx⟩ []) := rfl
  rw [HR.out]
  generalize flyS 3 (⟨cl, on, clean, offF id fl, qu, nx⟩ : Se) [] = R at *
  generalize offF id fl = fl2 at *
  clear hs hz hn hqn hA HR
  have x3 : W.cell? ⟨b, 3, none⟩ = some (.slice aa fl.length ca) := HS.out.box.cell 3
  have f3 : W.frozen? ⟨b, 3, none⟩ = false := HS.out.box.frozen 3
  go_enter Tryd.func24, Tryd.ntmps24
  have KB : Hid (∀ w2, W.grownBy w2 (Value.slice aa fl.length ca).ownBlock → w2.cell? ⟨b, 3, none⟩ = some (.slice aa fl.length ca) ∧ w2.frozen? ⟨b, 3, none⟩ = false) := fun w2 hg => by
    have hh := hg.block b HS.out.box.lt (fun e => kown_ne HS.out.fl HS.out.box (by decide) e.symm)
    exact ⟨(World.cell?_of_block (w := W) (a := ⟨b, 3, none⟩) hh).trans (HS.out.box.cell 3), (World.frozen?_of_block (w := W) (a := ⟨b, 3, none⟩) hh).trans (HS.out.box.frozen 3)⟩
  go_upto_region 1 with (go_at_call 25; refine CD.out.mono ?_; rintro e w2 ⟨rfl, hown, hgrow⟩; have k3 := (KB.out w2 hgrow).1; have kf3 := (KB.out w2 hgrow).2)
  have HS3 := hide ((HS.out.putFl hgrow hown (by cases aa <;> rfl)).toSd)
  clear hown hgrow k3 kf3 x3 f3 HS CD KB
  revert HS3
  generalize w2.setCell ⟨b, 3, none⟩ (.slice aa fl2.length ca) = W3
  intro HS3
  go_wp2_with fail
  refine (CY.out _ HS3.out).mono ?_
  rintro e w4 ⟨rfl, hr⟩
  have HR := hide hr
  clear hr CY HS3
  go_wp2
  go_end0
  exact ⟨rfl, HR.out⟩

/-- a payload is sent -/
def sendS (s : Se) (t p : ByteArray) (q : Int) : Se × List Pk :=
  if q = 1 then flyS 3 (quS s t p) [] else if s.on = true then (s, [⟨3, false, false, false, false, 0, 0, 0, 0, ⟨#[]⟩, t, p, [], []⟩]) else (s, [])
theorem quS_parts (s : Se) (t p : ByteArray) : (quS s t p).fl = s.fl ∧ (quS s t p).next = s.next ∧ (quS s t p).on = s.on ∧ (quS s t p).clean = s.clean ∧ (quS s t p).client = s.client ∧ ((quS s t p).qu = s.qu ∨ (quS s t p).qu = s.qu ++ [⟨0, t, p⟩]) := by
  unfold quS
  by_cases h : (s.on = true ∨ s.clean = false) ∧ s.qu.length < 6
  · rw [if_pos h]; exact ⟨rfl, rfl, rfl, rfl, rfl, .inr rfl⟩
  · rw [if_neg h]; exact ⟨rfl, rfl, rfl, rfl, rfl, .inl rfl⟩

set_option maxHeartbeats 8000000 in
set_option maxRecDepth 100000 in
theorem sendAct_any (N b M c c1 c2 : Nat) (q : Int) (t p : ByteArray) (s : Se) (aa ab : Option Addr) (ca cb : Nat) (w W : World) (hs : Sq N b s (.slice aa s.fl.length ca) (.slice ab s.qu.length cb) (.slice none 0 0) [] M w W)
    (hA : W.cell? ⟨c, 0, none⟩ = some (.int .i64 q)) (hA1 : W.cell? ⟨c1, 0, none⟩ = some (.string t)) (hA2 : W.cell? ⟨c2, 0, none⟩ = some (.string p)) (ht : t.size ≤ 281474976710656) (hp : p.size ≤ 281474976710656) (hl : s.fl.length ≤ 3) (hn : 1 ≤ s.next ∧ s.next ≤ 65535) (hqn : s.qu.length ≤ 1000000) (hz : ∀ f, f ∈ s.qu → f.topic.size ≤ 281474976710656 ∧ f.load.size ≤ 281474976710656) :
    Calls Tryd.prog 20 #[.pointer (some ⟨b, 0, none⟩), .pointer (some ⟨c, 0, none⟩), .pointer (some ⟨c1, 0, none⟩), .pointer (some ⟨c2, 0, none⟩)] W fun e W' => e = .returned (.tuple #[]) ∧ ∃ aa' ca' ab' cb' ao' cs', Sd N b (sendS s t p q).1 (.slice aa' (sendS s t p q).1.fl.length ca') ab' cb' (.slice ao' (sendS s t p q).2.length cs') (sendS s t p q).2 w W' := by
  have HS := hide hs
  unfold sendS
  by_cases hq : q = 1
  · subst hq
    rw [if_pos rfl]
    obtain ⟨r1, r2, r3, r4, r5, r6⟩ := quS_parts s t p
    have CQ := hide (queue_any N b M s (.slice aa s.fl.length ca) (.slice none 0 0) ab cb [] t p w W hs ht hp)
    have CY := hide (fun (ab : Option Addr) (cb : Nat) V (h : Sd N b (quS s t p) (.slice aa (quS s t p).fl.length ca) ab cb (.slice none ([] : List Pk).length 0) [] w V) => fly_any N b (quS s t p) aa ca ab cb none 0 [] w V h (by rw [r1]; exact hl) (by rw [r2]; exact hn) (by simp)
      (by rcases r6 with e | e
          · rw [e]; omega
          · rw [e, List.length_append]; simp only [List.length_cons, List.length_nil]; omega)
      (fun f hf => by
        rcases r6 with e | e
        · rw [e] at hf; exact hz f hf
        · rw [e] at hf
          rcases List.mem_append.1 hf with hf | hf
          · exact hz f hf
          · have : f = ⟨0, t, p⟩ := by simpa using hf
            subst this; exact ⟨ht, hp⟩))
    rw [r1] at CY
    have hfl := r1
    clear r1 r2 r3 r4 r5 r6
    generalize flyS 3 (quS s t p) [] = R at *
    generalize quS s t p = s2 at *
    clear hs hz hn hqn
    go_enter Tryd.func20, Tryd.ntmps20
    go_wp2_with fail
    refine CQ.out.mono ?_
    rintro e w2 ⟨rfl, ab', cb', hs2⟩
    have HS2 := hide hs2.toSd
    clear hs2 CQ HS hA hA1 hA2
    go_wp2_with fail
    refine (CY.out ab' cb' _ HS2.out).mono ?_
    rintro e w4 ⟨rfl, hr⟩
    have HR := hide hr
    clear hr CY HS2 hfl
    go_wp2
    refine bodyPost_ret (results_none rfl _ _ _) rfl ?_
    exact ⟨rfl, HR.out⟩
  · have hq' : (q == 1) = false := by simp [hq]
    rw [if_neg hq]
    clear hq hqn
    obtain ⟨cl, on, clean, fl, qu, nx⟩ := s
    simp only at HS hl hn hz ⊢
    have x1 : W.cell? ⟨b, 1, none⟩ = some (.bool on) := HS.out.box.cell 1
    cases on with
    | false =>
      rw [if_neg (by decide)]
      clear hs hz hn
      go_enter Tryd.func20, Tryd.ntmps20
      go_wp2
      go_end0
      exact ⟨rfl, aa, ca, ab, cb, none, 0, HS.out.toSd⟩
    | true =>
      rw [if_pos rfl]
      have CS := hide (ssend_any N b ⟨cl, true, clean, fl, qu, nx⟩ (.slice aa fl.length ca) ab cb none 0 [] w W ⟨0, false, false, false, false, 0, 0, 0, 0, ⟨#[]⟩, t, p, [], []⟩ HS.out.toSd (by simp) ht hp)
      simp only [spC] at CS
      clear hs hz hn
      go_enter Tryd.func20, Tryd.ntmps20
      go_wp2_with fail
      refine CS.out.mono ?_
      rintro e w4 ⟨rfl, a', c', hr⟩
      have HR := hide hr
      clear hr CS HS
      go_wp2
      go_end0
      exact ⟨rfl, aa, ca, ab, cb, a', c', HR.out⟩

/-- what is wrong with what is asked -/
def askedE (t p : ByteArray) (q : Int) : Int := if toldE t p ≠ 0 then toldE t p else if q = 0 ∨ q = 1 then 0 else 3
theorem checkAsked_any (t p : ByteArray) (q : Int) (w : World) (hm : Max w) : Calls Tryd.prog 19 #[.string t, .string p, .int .i64 q] w fun e w' => e = .returned (.int .i64 (askedE t p q)) ∧ Below w.heap.size w w' := by
  have C := hide (checkTold_any t p w hm)
  unfold askedE
  generalize toldE t p = E at *
  clear hm
  by_cases h : E = 0
  · have h1 : (E != 0) = false := by simp [h]
    rw [if_neg (by simp [h])]
    subst h
    by_cases h2 : q = 0
    · subst h2
      rw [if_pos (.inl rfl)]
      go_enter Tryd.func19, Tryd.ntmps19
      go_wp2_with fail
      refine C.out.mono ?_
      rintro e w1 ⟨rfl, hb⟩
      have HB := hide hb
      clear hb
      go_wp2
      go_ret
      exact ⟨rfl, HB.out⟩
    · by_cases h3 : q = 1
      · subst h3
        rw [if_pos (.inr rfl)]
        go_enter Tryd.func19, Tryd.ntmps19
        go_wp2_with fail
        refine C.out.mono ?_
        rintro e w1 ⟨rfl, hb⟩
        have HB := hide hb
        clear hb
        go_wp2
        go_ret
        exact ⟨rfl, HB.out⟩
      · rw [if_neg (by omega)]
        have e2 : (q != 0) = true := by simp [h2]
        have e3 : (q != 1) = true := by simp [h3]
        clear h2 h3
        go_enter Tryd.func19, Tryd.ntmps19
        go_wp2_with fail
        refine C.out.mono ?_
        rintro e w1 ⟨rfl, hb⟩
        have HB := hide hb
        clear hb
        go_wp2
        go_ret
        exact ⟨rfl, HB.out⟩
  · have h1 : (E != 0) = true := by simp [h]
    rw [if_pos h]
    clear h
    go_enter Tryd.func19, Tryd.ntmps19
    go_wp2_with fail
    refine C.out.mono ?_
    rintro e w1 ⟨rfl, hb⟩
    have HB := hide hb
    clear hb
    go_wp2
    go_ret
    exact ⟨rfl, HB.out⟩
end Go.Proofs.YtnhcecgmcmcioaaDoor
