/-
  watch.Add, Cancel, Fresh: what they answer.
-/
import Derived.Test.YtbodjfmbdddieafDoorWatchThose
namespace Go.Proofs.YtbodjfmbdddieafDoor
open Go.RowKit Go.PlainAid

/-- a row and a number come -/
def WPost (w : World) (L : List Wt) (E : Int) (e : Ending) (w' : World) : Prop := ∃ v, e = .returned (.tuple #[v, .int .i64 E]) ∧ w'.ownsRow w.heap.size 30 4 v L.length (wtCells L) ∧ Below w.heap.size w w'
theorem WPost.inn {w : World} {L : List Wt} {E : Int} {e : Ending} {w' : World} (h : WPost w L E e w') : ∃ aa ca, e = .returned (.tuple #[.slice aa L.length ca, .int .i64 E]) ∧ WtsIn w' aa L ∧ L.length ≤ ca ∧ Below w.heap.size w w' := by
  obtain ⟨v, he, hown, hb⟩ := h
  obtain ⟨aa, ca, rfl, h1, h2⟩ := own_wts hown
  exact ⟨aa, ca, he, h1, h2, hb⟩

set_option maxHeartbeats 4000000 in
set_option maxRecDepth 100000 in
theorem wadd_any (l : List Wt) (p : Int) (t n : ByteArray) (ao : Option Addr) (co : Nat) (w : World) (hl : WtsIn w ao l) (hco : l.length ≤ co) (hm : Max w) :
    Calls Tryd.prog 11 #[.slice ao l.length co, .int .i64 p, .string t, .string n] w (WPost w (addA l p t n) (addE l p t n)) := by
  obtain ⟨i0, hi, hz0, hz1, hz2⟩ := info_parts (show (Tryd.prog.info? 30).map (fun i => (i.zero, i.size, i.bytes)) = some (some (.agg #[.int .i64 0, .string ⟨#[]⟩, .string ⟨#[]⟩, .int .i64 0]), 4, 48) by kernel_rfl)
  have C1 : Hid (Calls Tryd.prog 9 #[.slice ao l.length co] w fun e w' => e = .returned (.int .i64 (wchkK l)) ∧ Below w.heap.size w w') := wcheck_any l ao co w hl hco hm
  have C2 : Hid (∀ W, Below w.heap.size w W → Calls Tryd.prog 24 #[.agg #[.int .i64 p, .string t, .string n, .int .i64 1]] W fun e w' => e = .returned (.int .i64 (wchkO ⟨p, t, n, 1⟩)) ∧ Below W.heap.size W w') := fun W h => wcheckOne_any ⟨p, t, n, 1⟩ W (hm.below h)
  have C3 := hide (fun W => isOf_any p t W)
  have C4 : Hid (wchkK l = 0 → ∀ W c, Below w.heap.size w W → Asks c p t W → Calls Tryd.prog 20 #[.slice ao l.length co, .func (.func 34) #[] #[.pointer (some ⟨c, 0, none⟩), .pointer (some ⟨c + 1, 0, none⟩)]] W (WRow W (offW l p t))) := fun h W c hW hA =>
    without_of c (c + 1) (isW p t) l ao co W (hl.below hW) ((wchkK_iff l).1 h).1 (wsmall_of h) fun k W' hW' => lit_isOf k c p t W' (hA.below hW')
  have C5 : Hid (wchkO ⟨p, t, n, 1⟩ = 0 → ∀ W, Calls Tryd.prog 28 #[.agg #[.int .i64 p, .string t, .string n, .int .i64 1]] W fun e w' => e = .returned (.agg #[.int .i64 p, .string t, .string n, .int .i64 1]) ∧ Below W.heap.size W w') := fun h W => by
    obtain ⟨a1, a2, _⟩ := wchkO_parts h
    have b1 := waskE_ok a1
    have b2 := (chk_ok a2).1
    simp only at b1 b2
    exact clone_wt ⟨p, t, n, 1⟩ W (by show t.size ≤ _; omega) (by show n.size ≤ _; omega)
  have hol := off_len l p t
  have HE1 : Hid (wchkK l ≠ 0 → addE l p t n = wchkK l ∧ addA l p t n = []) := fun h => by
    have e : addE l p t n = wchkK l := by unfold addE; rw [if_pos h]
    exact ⟨e, by unfold addA; rw [e, if_neg h]⟩
  have HE2 : Hid (wchkK l = 0 → wchkO ⟨p, t, n, 1⟩ ≠ 0 → addE l p t n = wchkO ⟨p, t, n, 1⟩ ∧ addA l p t n = []) := fun h0 h => by
    have e : addE l p t n = wchkO ⟨p, t, n, 1⟩ := by unfold addE; rw [if_neg (by simp [h0]), if_pos h]
    exact ⟨e, by unfold addA; rw [e, if_neg h]⟩
  have HE3 : Hid (wchkK l = 0 → wchkO ⟨p, t, n, 1⟩ = 0 → (offW l p t).length = 12 → addE l p t n = 2 ∧ addA l p t n = []) := fun h0 h1 h => by
    have e : addE l p t n = 2 := by unfold addE; rw [if_neg (by simp [h0]), if_neg (by simp [h1]), if_pos h]
    exact ⟨e, by unfold addA; rw [e]; rfl⟩
  have HE4 : Hid (wchkK l = 0 → wchkO ⟨p, t, n, 1⟩ = 0 → (offW l p t).length ≠ 12 → addE l p t n = 0 ∧ addA l p t n = offW l p t ++ [⟨p, t, n, 1⟩]) := fun h0 h1 h => by
    have e : addE l p t n = 0 := by unfold addE; rw [if_neg (by simp [h0]), if_neg (by simp [h1]), if_neg h]
    exact ⟨e, by unfold addA; rw [e]; rfl⟩
  have HC0 : Hid (wchkK l = 0 → l.length ≤ 12) := fun h => ((wchkK_iff l).1 h).1
  clear hl hm
  generalize addE l p t n = AE at *
  generalize addA l p t n = AA at *
  generalize wchkK l = K at *
  generalize offW l p t = X at *
  generalize hOO : wchkO ⟨p, t, n, 1⟩ = O at *
  clear hOO
  go_enter Tryd.func11, Tryd.ntmps11
  go_wp2_with fail
  refine C1.out.mono ?_
  rintro e w1 ⟨rfl, hb1⟩
  have HB1 := hide hb1
  clear hb1 C1
  by_cases h1 : K = 0
  · have h1' : (K != 0) = false := by simp [h1]
    have C4 := hide (C4.out h1)
    have HE2 := hide (HE2.out h1)
    have HE3 := hide (HE3.out h1)
    have HE4 := hide (HE4.out h1)
    have h12 := HC0.out h1
    clear h1 HE1 HC0
    have HB1a := hide (HB1.out.alloc HB1.out.size (.cells #[.int .i64 p, .string t, .string n, .int .i64 1] 30))
    have d1 := wt_cells w1 (.int .i64 p) (.string t) (.string n) (.int .i64 1)
    have z1 : w1.heap.size < (w1.alloc (.cells #[.int .i64 p, .string t, .string n, .int .i64 1] 30)).heap.size := by simp
    go_wp2_with fail
    refine (C2.out _ HB1a.out).mono ?_
    rintro e w2 ⟨rfl, hb2⟩
    have HB2 := hide (below_step HB1a.out hb2)
    have d2 : ∀ o, w2.cell? ⟨w1.heap.size, o, none⟩ = (#[.int .i64 p, .string t, .string n, .int .i64 1] : Array Value)[o]? := fun o => (hb2.cell (p := ⟨w1.heap.size, o, none⟩) z1).trans (d1 o)
    have z2 : w1.heap.size < w2.heap.size := Nat.lt_of_lt_of_le z1 hb2.size
    clear hb2 d1 z1 HB1a HB1 C2
    by_cases h2 : O = 0
    · have h2' : (O != 0) = false := by simp [h2]
      have HE3 := hide (HE3.out h2)
      have HE4 := hide (HE4.out h2)
      have C5 := hide (C5.out h2)
      clear h2 HE2
      go_wp2_with fail
      refine (C3.out _).mono ?_
      rintro e w3 ⟨rfl, ha3, hb3⟩
      have HB3 := hide (below_step HB2.out hb3)
      have HA3 := hide ha3
      have d3 : ∀ o, w3.cell? ⟨w1.heap.size, o, none⟩ = (#[.int .i64 p, .string t, .string n, .int .i64 1] : Array Value)[o]? := fun o => (hb3.cell (p := ⟨w1.heap.size, o, none⟩) z2).trans (d2 o)
      have z3 : w1.heap.size < w3.heap.size := Nat.lt_of_lt_of_le z2 hb3.size
      clear hb3 ha3 d2 z2 HB2 C3
      have C := hide (C4.out w3 w2.heap.size HB3.out HA3.out)
      clear C4 HA3
      generalize w2.heap.size + 1 = c1 at *
      generalize w2.heap.size = c at *
      go_wp2_with fail
      refine C.out.mono ?_
      intro e w4 h4
      obtain ⟨v, rfl, hown, hb4⟩ := WRow.up h4 (Below.refl w3.heap.size w3)
      have HB4 := hide (below_step HB3.out hb4)
      have d4 : ∀ o, w4.cell? ⟨w1.heap.size, o, none⟩ = (#[.int .i64 p, .string t, .string n, .int .i64 1] : Array Value)[o]? := fun o => (hb4.cell (p := ⟨w1.heap.size, o, none⟩) z3).trans (d3 o)
      have z4 : w1.heap.size < w4.heap.size := Nat.lt_of_lt_of_le z3 hb4.size
      have HO4 := hide (kown_mono hown HB3.out.size)
      obtain ⟨aa, ca, rfl⟩ := kown_form hown
      clear hown hb4 d3 z3 HB3 C h4
      by_cases h3 : X.length = 12
      · have h3' : ((X.length : Int) == 12) = true := by rw [h3]; rfl
        obtain ⟨x1, x2⟩ := HE3.out h3
        subst x1 x2
        clear h3
        go_wp2
        go_ret2
        exact ⟨_, rfl, World.ownsRow_nil _ _ _ _, HB4.out⟩
      · have h3' : ((X.length : Int) == 12) = false := beq_false_of_ne (by omega)
        obtain ⟨x1, x2⟩ := HE4.out h3
        subst x1 x2
        clear h3
        go_wp2_with fail
        refine (C5.out _).mono ?_
        rintro e w5 ⟨rfl, hb5⟩
        have HB5 := hide (below_step HB4.out hb5)
        have HO5 : Hid (w5.ownsRow w.heap.size 30 4 (.slice aa X.length ca) X.length (wtCells X)) := kown_below HO4.out hb5
        have hs5 := HB5.out.size
        clear hb5 HO4 HB4
        go_wp2_with (at_builtin; refine wpList_append_lies _ rfl _ _ 22 rfl w.heap.size 30 i0 _ 4 48 Tryd.underlying22 hi hz0 hz1 hz2 rfl (by decide) _ _ _ rfl (HO5.out.alloc (.cells #[.int .i64 p, .string t, .string n, .int .i64 1] 30)) ⟨w5.heap.size, 0, none⟩ 1 1 [.int .i64 p, .string t, .string n, .int .i64 1] rfl rfl (World.news_of_block (cs := #[.int .i64 p, .string t, .string n, .int .i64 1]) (t := 30) (fr := (0, 0)) (Go.heap_alloc_new w5 _)) (by simp [Value.oneCell']) (by decide) (by unfold maxLen; omega) (by omega) (by simp; omega) _ rfl ?_)
        intro g cap w6 hown hgrow hat hg
        have HO6 : Hid (w6.ownsRow w.heap.size 30 4 (.slice (some ⟨g, 0, none⟩) (X ++ [⟨p, t, n, 1⟩] : List Wt).length cap) (X ++ [⟨p, t, n, 1⟩] : List Wt).length (wtCells (X ++ [⟨p, t, n, 1⟩]))) := by rw [wtCells_append, List.length_append]; exact hown
        have HB6 : Hid (Below w.heap.size w w6) := Below.grown (HB5.out.alloc hs5 _) hgrow (by simp; omega) (fun g' hg' => (kown_at HO5.out hg').1)
        clear hown hgrow hat hg
        go_wp2
        go_ret2
        exact ⟨_, by rw [List.length_append]; rfl, HO6.out, HB6.out⟩
    · have h2' : (O != 0) = true := by simp [h2]
      obtain ⟨x1, x2⟩ := HE2.out h2
      subst x1 x2
      clear h2
      go_wp2
      go_ret2
      exact ⟨_, rfl, World.ownsRow_nil _ _ _ _, HB2.out⟩
  · have h1' : (K != 0) = true := by simp [h1]
    obtain ⟨x1, x2⟩ := HE1.out h1
    subst x1 x2
    clear h1
    go_wp2
    go_ret2
    exact ⟨_, rfl, World.ownsRow_nil _ _ _ _, HB1.out⟩

set_option maxHeartbeats 4000000 in
theorem wcancel_any (l : List Wt) (p : Int) (t : ByteArray) (ao : Option Addr) (co : Nat) (w : World) (hl : WtsIn w ao l) (hco : l.length ≤ co) (hm : Max w) :
    Calls Tryd.prog 12 #[.slice ao l.length co, .int .i64 p, .string t] w (WPost w (canA l p t) (canE l p t)) := by
  have C1 : Hid (Calls Tryd.prog 9 #[.slice ao l.length co] w fun e w' => e = .returned (.int .i64 (wchkK l)) ∧ Below w.heap.size w w') := wcheck_any l ao co w hl hco hm
  have C2 := hide (fun W => checkAsker_any p t W)
  have C3 := hide (fun W => isOf_any p t W)
  have C4 : Hid (wchkK l = 0 → ∀ W c, Below w.heap.size w W → Asks c p t W → Calls Tryd.prog 20 #[.slice ao l.length co, .func (.func 34) #[] #[.pointer (some ⟨c, 0, none⟩), .pointer (some ⟨c + 1, 0, none⟩)]] W (WRow W (offW l p t))) := fun h W c hW hA =>
    without_of c (c + 1) (isW p t) l ao co W (hl.below hW) ((wchkK_iff l).1 h).1 (wsmall_of h) fun k W' hW' => lit_isOf k c p t W' (hA.below hW')
  have HE1 : Hid (wchkK l ≠ 0 → canE l p t = wchkK l ∧ canA l p t = []) := fun h => by
    have e : canE l p t = wchkK l := by unfold canE; rw [if_pos h]
    exact ⟨e, by unfold canA; rw [e, if_neg h]⟩
  have HE2 : Hid (wchkK l = 0 → waskE p t ≠ 0 → canE l p t = waskE p t ∧ canA l p t = []) := fun h0 h => by
    have e : canE l p t = waskE p t := by unfold canE; rw [if_neg (by simp [h0])]
    exact ⟨e, by unfold canA; rw [e, if_neg h]⟩
  have HE3 : Hid (wchkK l = 0 → waskE p t = 0 → canE l p t = 0 ∧ canA l p t = offW l p t) := fun h0 h => by
    have e : canE l p t = 0 := by unfold canE; rw [if_neg (by simp [h0]), h]
    exact ⟨e, by unfold canA; rw [e]; rfl⟩
  clear hl hm
  revert C1 C2 HE1 HE2 HE3 C4
  generalize canE l p t = AE
  generalize canA l p t = AA
  generalize wchkK l = K
  generalize offW l p t = X
  generalize waskE p t = O
  intro C1 C2 C4 HE1 HE2 HE3
  go_enter Tryd.func12, Tryd.ntmps12
  go_wp2_with fail
  refine C1.out.mono ?_
  rintro e w1 ⟨rfl, hb1⟩
  have HB1 := hide hb1
  clear hb1 C1
  by_cases h1 : K = 0
  · have h1' : (K != 0) = false := by simp [h1]
    have C4 := hide (C4.out h1)
    have HE2 := hide (HE2.out h1)
    have HE3 := hide (HE3.out h1)
    clear h1 HE1
    go_wp2_with fail
    refine (C2.out _).mono ?_
    rintro e w2 ⟨rfl, hb2⟩
    have HB2 := hide (below_step HB1.out hb2)
    clear hb2 HB1 C2
    by_cases h2 : O = 0
    · have h2' : (O != 0) = false := by simp [h2]
      obtain ⟨x1, x2⟩ := HE3.out h2
      subst x1 x2
      clear h2 HE2 HE3
      go_wp2_with fail
      refine (C3.out _).mono ?_
      rintro e w3 ⟨rfl, ha3, hb3⟩
      have HB3 := hide (below_step HB2.out hb3)
      have HA3 := hide ha3
      clear hb3 ha3 HB2 C3
      have C := hide (C4.out w3 w2.heap.size HB3.out HA3.out)
      clear C4 HA3
      generalize w2.heap.size + 1 = c1 at *
      generalize w2.heap.size = c at *
      go_wp2_with fail
      refine C.out.mono ?_
      intro e w4 h4
      obtain ⟨v, rfl, hown, hb4⟩ := WRow.up h4 (Below.refl w3.heap.size w3)
      have HB4 := hide (below_step HB3.out hb4)
      have HO4 := hide (kown_mono hown HB3.out.size)
      clear hown hb4 HB3 C h4
      go_wp2
      go_ret2
      exact ⟨_, rfl, HO4.out, HB4.out⟩
    · have h2' : (O != 0) = true := by simp [h2]
      obtain ⟨x1, x2⟩ := HE2.out h2
      subst x1 x2
      clear h2
      go_wp2
      go_ret2
      exact ⟨_, rfl, World.ownsRow_nil _ _ _ _, HB2.out⟩
  · have h1' : (K != 0) = true := by simp [h1]
    obtain ⟨x1, x2⟩ := HE1.out h1
    subst x1 x2
    clear h1
    go_wp2
    go_ret2
    exact ⟨_, rfl, World.ownsRow_nil _ _ _ _, HB1.out⟩

end Go.Proofs.YtbodjfmbdddieafDoor
