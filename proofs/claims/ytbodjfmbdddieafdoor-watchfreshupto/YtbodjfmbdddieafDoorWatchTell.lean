/-
  watch.Tell: what it answers.
-/
import Derived.Test.YtbodjfmbdddieafDoorWatchCalls
import Derived.Test.YtbodjfmbdddieafDoorWatchFre
import Derived.OwnWalk
namespace Go.Proofs.YtbodjfmbdddieafDoor
open Go.RowKit Go.PlainAid

/-- the first of them told, the others as they were -/
def mixW (l : List Wt) (n : ByteArray) (k : Nat) : List Wt := (l.take k).map (upW n) ++ l.drop k
theorem mixW_len (l : List Wt) (n : ByteArray) (k : Nat) : (mixW l n k).length = l.length := by simp [mixW]; omega
theorem mixW_at (l : List Wt) (n : ByteArray) (k : Nat) (h : k < l.length) : mixW l n k = (l.take k).map (upW n) ++ l[k] :: l.drop (k + 1) := by rw [mixW, List.drop_eq_getElem_cons h]
theorem mixW_next (l : List Wt) (n : ByteArray) (k : Nat) (h : k < l.length) : mixW l n (k + 1) = (l.take k).map (upW n) ++ upW n l[k] :: l.drop (k + 1) := by
  rw [mixW, List.take_succ_eq_append_getElem h, List.map_append]
  simp
theorem wtCells_set (a b : List Wt) (k : Wt) (x : Int) : (wtCells (a ++ k :: b)).set (a.length * 4 + 3) (.int .i64 x) = wtCells (a ++ ⟨k.peer, k.token, k.topic, x⟩ :: b) := by
  rw [wtCells_append, wtCells_append, List.set_append_right _ _ (by rw [wtCells_len]; omega), wtCells_len, show a.length * 4 + 3 - a.length * 4 = 3 by omega]
  rfl
theorem wtCells_mid (a b : List Wt) (k : Wt) : (wtCells (a ++ k :: b))[a.length * 4 + 2]? = some (.string k.topic) ∧ (wtCells (a ++ k :: b))[a.length * 4 + 3]? = some (.int .i64 k.num) := by
  have h := wtCells_get (a ++ k :: b) a.length (by simp)
  simpa using h.2.2

/-- while they are told: the row, the box of the topic -/
structure Tl (w : World) (n : ByteArray) (m : Nat) (L : List Wt) (v : Value) (W : World) : Prop where
  row : W.ownsRow (w.heap.size + 1) 30 4 v m (wtCells L)
  box : W.cell? ⟨w.heap.size, 0, none⟩ = some (.string n)
  lt : w.heap.size < W.heap.size
  bel : Below w.heap.size w W
theorem Tl.drewN {w : World} {n : ByteArray} {m : Nat} {L : List Wt} {v : Value} {W : World} (h : Tl w n m L v W) (j : Nat) : Tl w n m L v (W.drewN j) := ⟨h.row, h.box, h.lt, kbelow_drewN h.bel j⟩
theorem upW_eq {n : ByteArray} {k : Wt} (h : k.topic = n) : upW n k = ⟨k.peer, k.token, k.topic, nextN k.num⟩ := by unfold upW; rw [if_pos h]
theorem upW_ne {n : ByteArray} {k : Wt} (h : k.topic ≠ n) : upW n k = k := by unfold upW; rw [if_neg h]
theorem mixW_stay (l : List Wt) (n : ByteArray) (k : Nat) (h : k < l.length) (ht : l[k].topic ≠ n) : mixW l n (k + 1) = mixW l n k := by rw [mixW_next l n k h, mixW_at l n k h, upW_ne ht]
theorem Tl.told {w : World} {n : ByteArray} {l : List Wt} {g ca k : Nat} {W : World} (h : Tl w n l.length (mixW l n k) (.slice (some ⟨g, 0, none⟩) l.length ca) W) (hk : k < l.length) (ht : l[k].topic = n) :
    Tl w n l.length (mixW l n (k + 1)) (.slice (some ⟨g, 0, none⟩) l.length ca) (W.setCell ⟨g, k * 4 + 3, none⟩ (.int .i64 (nextN l[k].num))) := by
  have hg := kown_at h.row (g := g) rfl
  refine ⟨?_, (World.cell?_setCell_other _ _ _ _ (by simp)).trans h.box, by simpa using h.lt, h.bel.setCell (p := ⟨g, k * 4 + 3, none⟩) (by show w.heap.size ≤ g; omega) _⟩
  have := (h.row.stored (k * 4 + 3) (.int .i64 (nextN l[k].num))).1
  have hlk : ((l.take k).map (upW n)).length = k := by simp; omega
  have e := wtCells_set ((l.take k).map (upW n)) (l.drop (k + 1)) l[k] (nextN l[k].num)
  rw [hlk] at e
  rw [mixW_at l n k hk, e] at this
  rw [mixW_next l n k hk, upW_eq ht]
  exact this

/-- two rows and a number come -/
def TPost (w : World) (L M : List Wt) (E : Int) (e : Ending) (w' : World) : Prop := ∃ v u m, e = .returned (.tuple #[v, u, .int .i64 E]) ∧ w.heap.size ≤ m ∧ w'.ownsRow w.heap.size 30 4 v L.length (wtCells L) ∧ (∀ g, v.ownBlock = some g → g < m) ∧ w'.ownsRow m 30 4 u M.length (wtCells M) ∧ Below w.heap.size w w'
theorem TPost.inn {w : World} {L M : List Wt} {E : Int} {e : Ending} {w' : World} (h : TPost w L M E e w') : ∃ aa ca ab cb, e = .returned (.tuple #[.slice aa L.length ca, .slice ab M.length cb, .int .i64 E]) ∧ WtsIn w' aa L ∧ L.length ≤ ca ∧ WtsIn w' ab M ∧ M.length ≤ cb ∧ Below w.heap.size w w' := by
  obtain ⟨v, u, m, he, _, hown, _, hown2, hb⟩ := h
  obtain ⟨aa, ca, rfl, h1, h2⟩ := own_wts hown
  obtain ⟨ab, cb, rfl, h3, h4⟩ := own_wts hown2
  exact ⟨aa, ca, ab, cb, he, h1, h2, h3, h4, hb⟩
theorem TPost.none {w w' : World} {E : Int} (hb : Below w.heap.size w w') : TPost w [] [] E (.returned (.tuple #[.slice none 0 0, .slice none 0 0, .int .i64 E])) w' :=
  ⟨_, _, w.heap.size, rfl, Nat.le_refl _, World.ownsRow_nil _ _ _ _, fun _ h => (by simp [Value.ownBlock] at h), World.ownsRow_nil _ _ _ _, hb⟩

theorem filter_off (l : List Wt) (n : ByteArray) : l.filter (fun k => !(!ofT n k)) = l.filter (ofT n) := by
  congr 1
  funext k
  simp
theorem filter_none (l : List Wt) : l.filter (fun _ => !false) = l := by simp

set_option maxHeartbeats 4000000 in
set_option maxRecDepth 100000 in
theorem wtell_any (l : List Wt) (n : ByteArray) (ao : Option Addr) (co : Nat) (w : World) (hl : WtsIn w ao l) (hco : l.length ≤ co) (hm : Max w) :
    Calls Tryd.prog 8 #[.slice ao l.length co, .string n] w (TPost w (telA l n) (telB l n) (telE l n)) := by
  have HB := hide ((Below.refl w.heap.size w).alloc (Nat.le_refl _) (.cells #[.string n] 9))
  have HX : Hid ((w.alloc (.cells #[.string n] 9)).cell? ⟨w.heap.size, 0, none⟩ = some (.string n)) := Lib.cell_of_heap (Go.heap_alloc_new w _) 0
  have hz0 : w.heap.size < (w.alloc (.cells #[.string n] 9)).heap.size := by simp
  have C1 : Hid (∀ W, Below w.heap.size w W → Calls Tryd.prog 9 #[.slice ao l.length co] W fun e w' => e = .returned (.int .i64 (wchkK l)) ∧ Below W.heap.size W w') := fun W h => wcheck_any l ao co W (hl.below h) hco (hm.below h)
  have C2 : Hid (∀ W, Below w.heap.size w W → Calls Tryd.prog 19 #[.string n] W fun e w' => e = .returned (.int .i64 (chk nameF n)) ∧ Below W.heap.size W w') := fun W h => name_max n W (hm.below h)
  have C3 : Hid (wchkK l = 0 → ∀ W, Below w.heap.size w W → Calls Tryd.prog 20 #[.slice ao l.length co, .func (.func 21) #[] #[]] W (WRow W l)) := fun h W hW => by
    have := without_none (fun _ => false) l ao co W (hl.below hW) ((wchkK_iff l).1 h).1 (wsmall_of h) fun k W' _ => lit_none k W'
    rwa [filter_none] at this
  have C4 : Hid (wchkK l = 0 → ∀ W aa ca, WtsIn W aa (telL l n) → W.cell? ⟨w.heap.size, 0, none⟩ = some (.string n) → w.heap.size < W.heap.size → Calls Tryd.prog 20 #[.slice aa l.length ca, .func (.func 23) #[] #[.pointer (some ⟨w.heap.size, 0, none⟩)]] W (WRow W (telS l n))) := fun h W aa ca hW hc hz => by
    have hh := tel_check h n
    have hln : (telL l n).length = l.length := by simp [telL]
    have := without_other w.heap.size (fun k => !ofT n k) (telL l n) aa ca W hW ((wchkK_iff _).1 hh).1 (wsmall_of hh) fun k W' hb => lit_other k w.heap.size n W' ((hb.cell (p := ⟨w.heap.size, 0, none⟩) hz).trans hc) (Nat.lt_of_lt_of_le hz hb.size)
    rw [filter_off, hln] at this
    exact this
  have CN : Hid (wchkK l = 0 → ∀ (k : Nat) (h : k < l.length) W, Calls Tryd.prog 22 #[.int .i64 l[k].num] W fun e w' => e = .returned (.int .i64 (nextN l[k].num)) ∧ w' = W) := fun h k hk W => behind_any _ W (wchkO_parts (((wchkK_iff l).1 h).2.1 _ (List.getElem_mem hk))).2.2
  have HE1 : Hid (wchkK l ≠ 0 → telE l n = wchkK l ∧ telA l n = [] ∧ telB l n = []) := fun h => by
    have e : telE l n = wchkK l := by unfold telE; rw [if_pos h]
    exact ⟨e, by unfold telA; rw [e, if_neg h], by unfold telB; rw [e, if_neg h]⟩
  have HE2 : Hid (wchkK l = 0 → chk nameF n ≠ 0 → telE l n = chk nameF n ∧ telA l n = [] ∧ telB l n = []) := fun h0 h => by
    have e : telE l n = chk nameF n := by unfold telE; rw [if_neg (by simp [h0])]
    exact ⟨e, by unfold telA; rw [e, if_neg h], by unfold telB; rw [e, if_neg h]⟩
  have HE3 : Hid (wchkK l = 0 → chk nameF n = 0 → telE l n = 0 ∧ telA l n = telL l n ∧ telB l n = telS l n) := fun h0 h => by
    have e : telE l n = 0 := by unfold telE; rw [if_neg (by simp [h0]), h]
    exact ⟨e, by unfold telA; rw [e]; rfl, by unfold telB; rw [e]; rfl⟩
  have HC0 : Hid (wchkK l = 0 → l.length ≤ 12) := fun h => ((wchkK_iff l).1 h).1
  clear hl hm
  generalize telE l n = AE at *
  generalize telA l n = AA at *
  generalize telB l n = AB at *
  generalize wchkK l = K at *
  generalize chk nameF n = O at *
  go_enter Tryd.func8, Tryd.ntmps8
  go_wp2_with fail
  refine (C1.out _ HB.out).mono ?_
  rintro e w1 ⟨rfl, hb1⟩
  have HB1 := hide (below_step HB.out hb1)
  have hx1 : w1.cell? ⟨w.heap.size, 0, none⟩ = some (.string n) := (hb1.cell (p := ⟨w.heap.size, 0, none⟩) hz0).trans HX.out
  have hz1 : w.heap.size < w1.heap.size := Nat.lt_of_lt_of_le hz0 hb1.size
  clear hb1 C1 HX hz0 HB
  by_cases h1 : K = 0
  · have h1' : (K != 0) = false := by simp [h1]
    have C3 := hide (C3.out h1)
    have C4 := hide (C4.out h1)
    have CN := hide (CN.out h1)
    have HE2 := hide (HE2.out h1)
    have HE3 := hide (HE3.out h1)
    have h12 := HC0.out h1
    clear h1 HE1 HC0
    go_wp2_with fail
    refine (C2.out _ HB1.out).mono ?_
    rintro e w2 ⟨rfl, hb2⟩
    have HB2 := hide (below_step HB1.out hb2)
    have hx2 : w2.cell? ⟨w.heap.size, 0, none⟩ = some (.string n) := (hb2.cell (p := ⟨w.heap.size, 0, none⟩) hz1).trans hx1
    have hz2 : w.heap.size < w2.heap.size := Nat.lt_of_lt_of_le hz1 hb2.size
    clear hb2 hx1 hz1 HB1 C2
    by_cases h2 : O = 0
    · have h2' : (O != 0) = false := by simp [h2]
      obtain ⟨x1, x2, x3⟩ := HE3.out h2
      subst x1 x2 x3
      clear h2 HE2 HE3
      go_wp2_with fail
      refine (C3.out _ HB2.out).mono ?_
      intro e w3 h3
      obtain ⟨v, rfl, hown, hb3⟩ := h3
      have em : mixW l n 0 = l := by simp [mixW]
      have HT3 : Hid (Tl w n l.length (mixW l n 0) v w3) := by
        refine ⟨?_, (hb3.cell (p := ⟨w.heap.size, 0, none⟩) hz2).trans hx2, Nat.lt_of_lt_of_le hz2 hb3.size, below_step HB2.out hb3⟩
        rw [em]
        exact kown_mono hown hz2
      clear em
      obtain ⟨aa, ca, rfl⟩ := kown_form hown
      clear hown hb3 hx2 hz2 HB2 C3
      go_wp2
      go_loopw [10, 25] (fun _ i wr => ∃ (k : Nat), k ≤ l.length ∧ i = .int .i64 k ∧ Hid (Tl w n l.length (mixW l n k) (.slice aa l.length ca) wr)) (fun _ i _ => l.length - (intOf i).toNat)
      case atStart => exact ⟨0, by omega, rfl, HT3.out⟩
      case round =>
        obtain ⟨k, hk, rfl, HR⟩ := hrel
        by_cases hlt : k < l.length
        · have hrow := HR.out.row
          obtain ⟨g, rfl⟩ : ∃ g, aa = some ⟨g, 0, none⟩ := by
            rcases hrow.2 with ⟨_, h⟩ | ⟨g, _, _, hv, _⟩
            · omega
            · injection hv with ha _ _; exact ⟨g, ha⟩
          have hq := wtCells_mid ((l.take k).map (upW n)) (l.drop (k + 1)) l[k]
          have hlk : ((l.take k).map (upW n)).length = k := by simp; omega
          rw [hlk, ← mixW_at l n k hlt] at hq
          have hk3 : wr.cell? ⟨g, k * 4 + 2, none⟩ = some (.string l[k].topic) := (hrow.cellAt _ (by omega)).trans hq.1
          have hk4 : wr.cell? ⟨g, k * 4 + 3, none⟩ = some (.int .i64 l[k].num) := (hrow.cellAt _ (by omega)).trans hq.2
          have hfr : wr.frozen? ⟨g, k * 4 + 3, none⟩ = false := hrow.frozenAt _
          have hbx := HR.out.box
          have CN1 := hide (CN.out k hlt)
          have HT := hide (txt_eq l[k].topic n)
          clear hq hlk hrow CN C4
          by_cases ht : l[k].topic = n
          · have HR1 := hide (fun j => (HR.out.drewN j).told hlt ht)
            have ht' : (l[k].topic.toList == n.toList) = true := by rw [HT.out, decide_eq_true ht]
            clear HT ht HR HT3
            generalize l[k].topic = xt at *
            generalize l[k].num = xv at *
            go_wp2_with fail
            go_big_quiet (fail)
            go_wp2_with fail
            refine (CN1.out _).mono ?_
            rintro e w4 ⟨rfl, rfl⟩
            go_wp2
            go_round
            case rel => exact ⟨k + 1, by omega, by go_num, HR1.out _⟩
            case measure => simp [intOf]; omega
          · have HR1 : Hid (∀ j, Tl w n l.length (mixW l n (k + 1)) (.slice (some ⟨g, 0, none⟩) l.length ca) (wr.drewN j)) := by
              intro j
              rw [mixW_stay l n k hlt ht]
              exact HR.out.drewN j
            have ht' : (l[k].topic.toList == n.toList) = false := by rw [HT.out, decide_eq_false ht]
            clear HT ht HR HT3 CN1
            generalize l[k].topic = xt at *
            generalize l[k].num = xv at *
            go_wp2_with fail
            go_big_quiet (fail)
            go_wp2
            go_round
            case rel => exact ⟨k + 1, by omega, by go_num, HR1.out _⟩
            case measure => simp [intOf]; omega
        · have hke : mixW l n k = telL l n := by unfold mixW telL; rw [List.take_of_length_le (by omega), List.drop_eq_nil_of_le (by omega), List.append_nil]
          have HT4 : Hid (Tl w n l.length (telL l n) (.slice aa l.length ca) wr) := by have := HR.out; rwa [hke] at this
          clear hke HR HT3 CN
          have hln : (telL l n).length = l.length := by simp [telL]
          have hin : WtsIn wr aa (telL l n) := by
            have h := HT4.out.row
            rw [← hln] at h
            obtain ⟨ao', co', hv, h1, _⟩ := own_wts h
            injection hv with ha _ _
            rw [ha]
            exact h1
          have C := hide (C4.out wr aa ca hin HT4.out.box HT4.out.lt)
          clear C4 hin
          go_wp2_with fail
          refine C.out.mono ?_
          intro e w5 h5
          obtain ⟨u, rfl, hown5, hb5⟩ := h5
          have HP : Hid (TPost w (telL l n) (telS l n) 0 (.returned (.tuple #[.slice aa l.length ca, u, .int .i64 0])) w5) :=
            ⟨_, u, wr.heap.size, rfl, Nat.le_of_lt HT4.out.lt, by rw [hln]; exact kown_mono (kown_below HT4.out.row hb5) (by omega), fun g hg => kown_lt HT4.out.row hg, hown5, below_step HT4.out.bel hb5⟩
          clear hown5 hb5 C HT4
          go_wp2
          go_ret3
          exact HP.out
    · have h2' : (O != 0) = true := by simp [h2]
      obtain ⟨x1, x2, x3⟩ := HE2.out h2
      subst x1 x2 x3
      clear h2
      go_wp2
      go_ret3
      exact TPost.none HB2.out
  · have h1' : (K != 0) = true := by simp [h1]
    obtain ⟨x1, x2, x3⟩ := HE1.out h1
    subst x1 x2 x3
    clear h1
    go_wp2
    go_ret3
    exact TPost.none HB1.out
end Go.Proofs.YtbodjfmbdddieafDoor
