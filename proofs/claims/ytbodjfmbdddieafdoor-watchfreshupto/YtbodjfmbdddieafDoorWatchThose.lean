/-
  watch.without, by each of its function literals: what it answers.
-/
import Derived.Test.YtbodjfmbdddieafDoorWatchCheck
namespace Go.Proofs.YtbodjfmbdddieafDoor
open Go.RowKit Go.PlainAid

def wtCells (l : List Wt) : List Value := l.flatMap fun k => [.int .i64 k.peer, .string k.token, .string k.topic, .int .i64 k.num]
theorem wtCells_append (a b : List Wt) : wtCells (a ++ b) = wtCells a ++ wtCells b := by simp [wtCells]
theorem wtCells_get (l : List Wt) (i : Nat) (h : i < l.length) : (wtCells l)[i * 4]? = some (.int .i64 l[i].peer) ∧ (wtCells l)[i * 4 + 1]? = some (.string l[i].token) ∧ (wtCells l)[i * 4 + 2]? = some (.string l[i].topic) ∧ (wtCells l)[i * 4 + 3]? = some (.int .i64 l[i].num) := by
  induction l generalizing i with
  | nil => simp at h
  | cons a l ih =>
    cases i with
    | zero => simp [wtCells]
    | succ i =>
      have e : wtCells (a :: l) = .int .i64 a.peer :: .string a.token :: .string a.topic :: .int .i64 a.num :: wtCells l := rfl
      have := ih i (by simpa using h)
      rw [e, show (i + 1) * 4 = i * 4 + 1 + 1 + 1 + 1 by omega, show i * 4 + 1 + 1 + 1 + 1 + 1 = (i * 4 + 1) + 1 + 1 + 1 + 1 by omega, show i * 4 + 1 + 1 + 1 + 1 + 2 = (i * 4 + 2) + 1 + 1 + 1 + 1 by omega, show i * 4 + 1 + 1 + 1 + 1 + 3 = (i * 4 + 3) + 1 + 1 + 1 + 1 by omega]
      simpa using this
theorem wtCells_len (l : List Wt) : (wtCells l).length = l.length * 4 := by
  induction l with
  | nil => rfl
  | cons a l ih => have e : wtCells (a :: l) = .int .i64 a.peer :: .string a.token :: .string a.topic :: .int .i64 a.num :: wtCells l := rfl; rw [e]; simp [ih]; omega
/-- a row of one's own: where it lies, and its room -/
theorem own_wts {w : World} {B : Nat} {v : Value} {l : List Wt} (h : w.ownsRow B 30 4 v l.length (wtCells l)) : ∃ ao co, v = .slice ao l.length co ∧ WtsIn w ao l ∧ l.length ≤ co := by
  rcases h.2 with ⟨hv, h0⟩ | ⟨g, cap, cur, hv, hb, hg, r1, r2, r3, htake⟩
  · have : l = [] := List.length_eq_zero_iff.1 h0
    subst this
    exact ⟨none, 0, hv, .inl rfl, Nat.le_refl _⟩
  · refine ⟨_, _, hv, .inr ⟨g, 0, rfl, (Array.getElem?_eq_some_iff.1 hg).1, fun i hi => ?_⟩, by first | assumption | omega⟩
    have hh := wtCells_get l i hi
    rw [← htake, List.getElem?_take, List.getElem?_take, List.getElem?_take, List.getElem?_take, if_pos (by omega), if_pos (by omega), if_pos (by omega), if_pos (by omega)] at hh
    rw [Nat.zero_add, Lib.cell_of_heap hg, Lib.cell_of_heap hg, Lib.cell_of_heap hg, Lib.cell_of_heap hg]
    simpa using hh

/-- a row of its own comes -/
def WRow (w : World) (L : List Wt) (e : Ending) (w' : World) : Prop := ∃ v, e = .returned v ∧ w'.ownsRow w.heap.size 30 4 v L.length (wtCells L) ∧ Below w.heap.size w w'
theorem WRow.up {w W : World} {L : List Wt} {e : Ending} {w' : World} (h : WRow W L e w') (hb : Below w.heap.size w W) : WRow w L e w' := by
  obtain ⟨v, he, hown, hbl⟩ := h
  exact ⟨v, he, kown_mono hown hb.size, hb.trans (hbl.mono hb.size)⟩

theorem wfilter_snoc (f : Wt → Bool) (l : List Wt) (k : Nat) (h : k < l.length) : (l.take (k + 1)).filter (fun k => !f k) = (l.take k).filter (fun k => !f k) ++ (if f l[k] then [] else [l[k]]) := by
  rw [List.take_succ_eq_append_getElem h, List.filter_append]
  cases e : f l[k] <;> simp [e]
/-- small enough to be copied -/
def WSmall (l : List Wt) : Prop := ∀ k ∈ l, k.token.size ≤ 281474976710656 ∧ k.topic.size ≤ 281474976710656
theorem wsmall_of {l : List Wt} (h : wchkK l = 0) : WSmall l := fun k hk => by
  obtain ⟨h1, h2, _⟩ := wchkO_parts (((wchkK_iff l).1 h).2.1 k hk)
  have := (chk_ok h2).1
  have := waskE_ok h1
  omega

set_option maxHeartbeats 4000000 in
set_option maxRecDepth 100000 in
theorem without_of (c c1 : Nat) (f : Wt → Bool) (l : List Wt) (ao : Option Addr) (co : Nat) (w : World) (hl : WtsIn w ao l) (hn : l.length ≤ 12) (hs : WSmall l)
    (hC : ∀ k W, Below w.heap.size w W → Calls Tryd.prog 34 #[wtV k, .pointer (some ⟨c, 0, none⟩), .pointer (some ⟨c1, 0, none⟩)] W fun e w' => e = .returned (.bool (f k)) ∧ Below W.heap.size W w') :
    Calls Tryd.prog 20 #[.slice ao l.length co, .func (.func 34) #[] #[.pointer (some ⟨c, 0, none⟩), .pointer (some ⟨c1, 0, none⟩)]] w (WRow w (l.filter fun k => !f k)) := by
  obtain ⟨i0, hi, hz0, hz1, hz2⟩ := info_parts (show (Tryd.prog.info? 30).map (fun i => (i.zero, i.size, i.bytes)) = some (some (.agg #[.int .i64 0, .string ⟨#[]⟩, .string ⟨#[]⟩, .int .i64 0]), 4, 48) by kernel_rfl)
  generalize hR : l.filter (fun k => !f k) = R
  have HR0 := hide hR
  have HL := hide hl
  have HS := hide hs
  have HC := hide hC
  clear hR hl hs hC
  go_enter Tryd.func20, Tryd.ntmps20
  go_wp2
  go_loopw [5, 10] (fun a i wr => ∃ (k : Nat) (aa : Option Addr) (ca : Nat), k ≤ l.length ∧ i = .int .i64 k ∧ a = .slice aa ((l.take k).filter fun k => !f k).length ca ∧ Hid (wr.ownsRow w.heap.size 30 4 (.slice aa ((l.take k).filter fun k => !f k).length ca) ((l.take k).filter fun k => !f k).length (wtCells ((l.take k).filter fun k => !f k)) ∧ Below w.heap.size w wr)) (fun _ i _ => l.length - (intOf i).toNat)
  case atStart => exact ⟨0, none, 0, by omega, rfl, rfl, World.ownsRow_nil _ _ _ _, Below.refl _ _⟩
  case round =>
    obtain ⟨k, aa, ca, hk, rfl, rfl, HR⟩ := hrel
    have hsz := HR.out.2.size
    by_cases hlt : k < l.length
    · obtain ⟨b, o, rfl, hb, hcell⟩ := wts_here HL.out hlt
      have hk1 : wr.cell? ⟨b, o + k * 4, none⟩ = some (.int .i64 l[k].peer) := by rw [HR.out.2.cell (p := ⟨b, _, none⟩) hb]; exact (hcell k hlt).1
      have hk2 : wr.cell? ⟨b, o + k * 4 + 1, none⟩ = some (.string l[k].token) := by rw [HR.out.2.cell (p := ⟨b, _, none⟩) hb]; exact (hcell k hlt).2.1
      have hk3 : wr.cell? ⟨b, o + k * 4 + 2, none⟩ = some (.string l[k].topic) := by rw [HR.out.2.cell (p := ⟨b, _, none⟩) hb]; exact (hcell k hlt).2.2.1
      have hk4 : wr.cell? ⟨b, o + k * 4 + 3, none⟩ = some (.int .i64 l[k].num) := by rw [HR.out.2.cell (p := ⟨b, _, none⟩) hb]; exact (hcell k hlt).2.2.2
      have HB := hide (HR.out.2.alloc hsz (.cells #[.int .i64 l[k].peer, .string l[k].token, .string l[k].topic, .int .i64 l[k].num] 30))
      have C := hide (HC.out l[k])
      have CK := hide (fun W => clone_wt l[k] W (HS.out _ (List.getElem_mem _)).1 (HS.out _ (List.getElem_mem _)).2)
      have HSN := hide (wfilter_snoc f l k hlt)
      have hle : ((l.take k).filter fun k => !f k).length ≤ 12 := Nat.le_trans (List.length_filter_le _ _) (by rw [List.length_take]; omega)
      clear hcell HL HS HC
      generalize hkk : l[k] = x at *
      clear hkk
      generalize ((l.take k).filter fun k => !f k) = X at *
      generalize f x = Y at *
      obtain ⟨p, t, n, v⟩ := x
      simp only [wtV] at hk1 hk2 hk3 hk4 HB C CK HSN
      have d0 := wt_cells wr (.int .i64 p) (.string t) (.string n) (.int .i64 v)
      have hz : wr.heap.size < (wr.alloc (.cells #[.int .i64 p, .string t, .string n, .int .i64 v] 30)).heap.size := by simp
      have HO0 : Hid ((wr.alloc (.cells #[.int .i64 p, .string t, .string n, .int .i64 v] 30)).ownsRow w.heap.size 30 4 (.slice aa X.length ca) X.length (wtCells X)) := HR.out.1.alloc _
      go_wp2_with fail
      refine (C.out _ HB.out).mono ?_
      rintro e w1 ⟨rfl, hb1⟩
      have HB1 := hide (HB.out.trans (hb1.mono HB.out.size))
      have d1 : ∀ o, w1.cell? ⟨wr.heap.size, o, none⟩ = (#[.int .i64 p, .string t, .string n, .int .i64 v] : Array Value)[o]? := fun o => (hb1.cell (p := ⟨wr.heap.size, o, none⟩) hz).trans (d0 o)
      have HO1 : Hid (w1.ownsRow w.heap.size 30 4 (.slice aa X.length ca) X.length (wtCells X)) := kown_below HO0.out hb1
      clear hb1 d0 hz HB C HO0
      cases Y with
      | true =>
        have HQ : Hid ((l.take (k + 1)).filter (fun k => !f k) = X) := by show _ = _; have := HSN.out; simpa using this
        go_wp2
        go_round
        case rel => exact ⟨k + 1, aa, ca, by omega, by go_num, by rw [HQ.out], by rw [HQ.out]; exact HO1.out, HB1.out⟩
        case measure => simp [intOf]; omega
      | false =>
        have HQ : Hid ((l.take (k + 1)).filter (fun k => !f k) = X ++ [⟨p, t, n, v⟩]) := by show _ = _; have := HSN.out; simpa using this
        go_wp2_with fail
        refine (CK.out _).mono ?_
        rintro e w2 ⟨rfl, hb2⟩
        have HB2 := hide (HB1.out.trans (hb2.mono HB1.out.size))
        have HO2 : Hid (w2.ownsRow w.heap.size 30 4 (.slice aa X.length ca) X.length (wtCells X)) := kown_below HO1.out hb2
        have hs2 := HB2.out.size
        clear hb2
        go_wp2_with (at_builtin; refine wpList_append_lies _ rfl _ _ 22 rfl w.heap.size 30 i0 _ 4 48 Tryd.underlying22 hi hz0 hz1 hz2 rfl (by decide) _ _ _ rfl (HO2.out.alloc (.cells #[.int .i64 p, .string t, .string n, .int .i64 v] 30)) ⟨w2.heap.size, 0, none⟩ 1 1 [.int .i64 p, .string t, .string n, .int .i64 v] rfl rfl (World.news_of_block (cs := #[.int .i64 p, .string t, .string n, .int .i64 v]) (t := 30) (fr := (0, 0)) (Go.heap_alloc_new w2 _)) (by simp [Value.oneCell']) (by decide) (by unfold maxLen; omega) (by omega) (by simp; omega) _ rfl ?_)
        intro g cap w3 hown hgrow hat hg
        have HO3 : Hid (w3.ownsRow w.heap.size 30 4 (.slice (some ⟨g, 0, none⟩) (X.length + 1) cap) (X.length + 1) (wtCells (X ++ [⟨p, t, n, v⟩]))) := by rw [wtCells_append]; exact hown
        have HB3 : Hid (Below w.heap.size w w3) := Below.grown (HB2.out.alloc hs2 _) hgrow (by simp; omega) (fun g' hg' => (kown_at HO2.out hg').1)
        clear hown hgrow hat hg
        go_wp2
        go_round
        case rel => exact ⟨k + 1, some ⟨g, 0, none⟩, cap, by omega, by go_num, by rw [HQ.out, List.length_append]; rfl, by rw [HQ.out, List.length_append]; exact HO3.out, HB3.out⟩
        case measure => simp [intOf]; omega
    · have hke : l.take k = l := List.take_of_length_le (by omega)
      rw [hke, HR0.out] at HR ⊢
      clear hke
      go_wp2
      go_ret
      exact ⟨_, rfl, HR.out.1, HR.out.2⟩

set_option maxHeartbeats 4000000 in
set_option maxRecDepth 100000 in
theorem without_none (f : Wt → Bool) (l : List Wt) (ao : Option Addr) (co : Nat) (w : World) (hl : WtsIn w ao l) (hn : l.length ≤ 12) (hs : WSmall l)
    (hC : ∀ k W, Below w.heap.size w W → Calls Tryd.prog 21 #[wtV k] W fun e w' => e = .returned (.bool (f k)) ∧ Below W.heap.size W w') :
    Calls Tryd.prog 20 #[.slice ao l.length co, .func (.func 21) #[] #[]] w (WRow w (l.filter fun k => !f k)) := by
  obtain ⟨i0, hi, hz0, hz1, hz2⟩ := info_parts (show (Tryd.prog.info? 30).map (fun i => (i.zero, i.size, i.bytes)) = some (some (.agg #[.int .i64 0, .string ⟨#[]⟩, .string ⟨#[]⟩, .int .i64 0]), 4, 48) by kernel_rfl)
  generalize hR : l.filter (fun k => !f k) = R
  have HR0 := hide hR
  have HL := hide hl
  have HS := hide hs
  have HC := hide hC
  clear hR hl hs hC
  go_enter Tryd.func20, Tryd.ntmps20
  go_wp2
  go_loopw [5, 10] (fun a i wr => ∃ (k : Nat) (aa : Option Addr) (ca : Nat), k ≤ l.length ∧ i = .int .i64 k ∧ a = .slice aa ((l.take k).filter fun k => !f k).length ca ∧ Hid (wr.ownsRow w.heap.size 30 4 (.slice aa ((l.take k).filter fun k => !f k).length ca) ((l.take k).filter fun k => !f k).length (wtCells ((l.take k).filter fun k => !f k)) ∧ Below w.heap.size w wr)) (fun _ i _ => l.length - (intOf i).toNat)
  case atStart => exact ⟨0, none, 0, by omega, rfl, rfl, World.ownsRow_nil _ _ _ _, Below.refl _ _⟩
  case round =>
    obtain ⟨k, aa, ca, hk, rfl, rfl, HR⟩ := hrel
    have hsz := HR.out.2.size
    by_cases hlt : k < l.length
    · obtain ⟨b, o, rfl, hb, hcell⟩ := wts_here HL.out hlt
      have hk1 : wr.cell? ⟨b, o + k * 4, none⟩ = some (.int .i64 l[k].peer) := by rw [HR.out.2.cell (p := ⟨b, _, none⟩) hb]; exact (hcell k hlt).1
      have hk2 : wr.cell? ⟨b, o + k * 4 + 1, none⟩ = some (.string l[k].token) := by rw [HR.out.2.cell (p := ⟨b, _, none⟩) hb]; exact (hcell k hlt).2.1
      have hk3 : wr.cell? ⟨b, o + k * 4 + 2, none⟩ = some (.string l[k].topic) := by rw [HR.out.2.cell (p := ⟨b, _, none⟩) hb]; exact (hcell k hlt).2.2.1
      have hk4 : wr.cell? ⟨b, o + k * 4 + 3, none⟩ = some (.int .i64 l[k].num) := by rw [HR.out.2.cell (p := ⟨b, _, none⟩) hb]; exact (hcell k hlt).2.2.2
      have HB := hide (HR.out.2.alloc hsz (.cells #[.int .i64 l[k].peer, .string l[k].token, .string l[k].topic, .int .i64 l[k].num] 30))
      have C := hide (HC.out l[k])
      have CK := hide (fun W => clone_wt l[k] W (HS.out _ (List.getElem_mem _)).1 (HS.out _ (List.getElem_mem _)).2)
      have HSN := hide (wfilter_snoc f l k hlt)
      have hle : ((l.take k).filter fun k => !f k).length ≤ 12 := Nat.le_trans (List.length_filter_le _ _) (by rw [List.length_take]; omega)
      clear hcell HL HS HC
      generalize hkk : l[k] = x at *
      clear hkk
      generalize ((l.take k).filter fun k => !f k) = X at *
      generalize f x = Y at *
      obtain ⟨p, t, n, v⟩ := x
      simp only [wtV] at hk1 hk2 hk3 hk4 HB C CK HSN
      have d0 := wt_cells wr (.int .i64 p) (.string t) (.string n) (.int .i64 v)
      have hz : wr.heap.size < (wr.alloc (.cells #[.int .i64 p, .string t, .string n, .int .i64 v] 30)).heap.size := by simp
      have HO0 : Hid ((wr.alloc (.cells #[.int .i64 p, .string t, .string n, .int .i64 v] 30)).ownsRow w.heap.size 30 4 (.slice aa X.length ca) X.length (wtCells X)) := HR.out.1.alloc _
      go_wp2_with fail
      refine (C.out _ HB.out).mono ?_
      rintro e w1 ⟨rfl, hb1⟩
      have HB1 := hide (HB.out.trans (hb1.mono HB.out.size))
      have d1 : ∀ o, w1.cell? ⟨wr.heap.size, o, none⟩ = (#[.int .i64 p, .string t, .string n, .int .i64 v] : Array Value)[o]? := fun o => (hb1.cell (p := ⟨wr.heap.size, o, none⟩) hz).trans (d0 o)
      have HO1 : Hid (w1.ownsRow w.heap.size 30 4 (.slice aa X.length ca) X.length (wtCells X)) := kown_below HO0.out hb1
      clear hb1 d0 hz HB C HO0
      cases Y with
      | true =>
        have HQ : Hid ((l.take (k + 1)).filter (fun k => !f k) = X) := by show _ = _; have := HSN.out; simpa using this
        go_wp2
        go_round
        case rel => exact ⟨k + 1, aa, ca, by omega, by go_num, by rw [HQ.out], by rw [HQ.out]; exact HO1.out, HB1.out⟩
        case measure => simp [intOf]; omega
      | false =>
        have HQ : Hid ((l.take (k + 1)).filter (fun k => !f k) = X ++ [⟨p, t, n, v⟩]) := by show _ = _; have := HSN.out; simpa using this
        go_wp2_with fail
        refine (CK.out _).mono ?_
        rintro e w2 ⟨rfl, hb2⟩
        have HB2 := hide (HB1.out.trans (hb2.mono HB1.out.size))
        have HO2 : Hid (w2.ownsRow w.heap.size 30 4 (.slice aa X.length ca) X.length (wtCells X)) := kown_below HO1.out hb2
        have hs2 := HB2.out.size
        clear hb2
        go_wp2_with (at_builtin; refine wpList_append_lies _ rfl _ _ 22 rfl w.heap.size 30 i0 _ 4 48 Tryd.underlying22 hi hz0 hz1 hz2 rfl (by decide) _ _ _ rfl (HO2.out.alloc (.cells #[.int .i64 p, .string t, .string n, .int .i64 v] 30)) ⟨w2.heap.size, 0, none⟩ 1 1 [.int .i64 p, .string t, .string n, .int .i64 v] rfl rfl (World.news_of_block (cs := #[.int .i64 p, .string t, .string n, .int .i64 v]) (t := 30) (fr := (0, 0)) (Go.heap_alloc_new w2 _)) (by simp [Value.oneCell']) (by decide) (by unfold maxLen; omega) (by omega) (by simp; omega) _ rfl ?_)
        intro g cap w3 hown hgrow hat hg
        have HO3 : Hid (w3.ownsRow w.heap.size 30 4 (.slice (some ⟨g, 0, none⟩) (X.length + 1) cap) (X.length + 1) (wtCells (X ++ [⟨p, t, n, v⟩]))) := by rw [wtCells_append]; exact hown
        have HB3 : Hid (Below w.heap.size w w3) := Below.grown (HB2.out.alloc hs2 _) hgrow (by simp; omega) (fun g' hg' => (kown_at HO2.out hg').1)
        clear hown hgrow hat hg
        go_wp2
        go_round
        case rel => exact ⟨k + 1, some ⟨g, 0, none⟩, cap, by omega, by go_num, by rw [HQ.out, List.length_append]; rfl, by rw [HQ.out, List.length_append]; exact HO3.out, HB3.out⟩
        case measure => simp [intOf]; omega
    · have hke : l.take k = l := List.take_of_length_le (by omega)
      rw [hke, HR0.out] at HR ⊢
      clear hke
      go_wp2
      go_ret
      exact ⟨_, rfl, HR.out.1, HR.out.2⟩

set_option maxHeartbeats 4000000 in
set_option maxRecDepth 100000 in
theorem without_other (c : Nat) (f : Wt → Bool) (l : List Wt) (ao : Option Addr) (co : Nat) (w : World) (hl : WtsIn w ao l) (hn : l.length ≤ 12) (hs : WSmall l)
    (hC : ∀ k W, Below w.heap.size w W → Calls Tryd.prog 23 #[wtV k, .pointer (some ⟨c, 0, none⟩)] W fun e w' => e = .returned (.bool (f k)) ∧ Below W.heap.size W w') :
    Calls Tryd.prog 20 #[.slice ao l.length co, .func (.func 23) #[] #[.pointer (some ⟨c, 0, none⟩)]] w (WRow w (l.filter fun k => !f k)) := by
  obtain ⟨i0, hi, hz0, hz1, hz2⟩ := info_parts (show (Tryd.prog.info? 30).map (fun i => (i.zero, i.size, i.bytes)) = some (some (.agg #[.int .i64 0, .string ⟨#[]⟩, .string ⟨#[]⟩, .int .i64 0]), 4, 48) by kernel_rfl)
  generalize hR : l.filter (fun k => !f k) = R
  have HR0 := hide hR
  have HL := hide hl
  have HS := hide hs
  have HC := hide hC
  clear hR hl hs hC
  go_enter Tryd.func20, Tryd.ntmps20
  go_wp2
  go_loopw [5, 10] (fun a i wr => ∃ (k : Nat) (aa : Option Addr) (ca : Nat), k ≤ l.length ∧ i = .int .i64 k ∧ a = .slice aa ((l.take k).filter fun k => !f k).length ca ∧ Hid (wr.ownsRow w.heap.size 30 4 (.slice aa ((l.take k).filter fun k => !f k).length ca) ((l.take k).filter fun k => !f k).length (wtCells ((l.take k).filter fun k => !f k)) ∧ Below w.heap.size w wr)) (fun _ i _ => l.length - (intOf i).toNat)
  case atStart => exact ⟨0, none, 0, by omega, rfl, rfl, World.ownsRow_nil _ _ _ _, Below.refl _ _⟩
  case round =>
    obtain ⟨k, aa, ca, hk, rfl, rfl, HR⟩ := hrel
    have hsz := HR.out.2.size
    by_cases hlt : k < l.length
    · obtain ⟨b, o, rfl, hb, hcell⟩ := wts_here HL.out hlt
      have hk1 : wr.cell? ⟨b, o + k * 4, none⟩ = some (.int .i64 l[k].peer) := by rw [HR.out.2.cell (p := ⟨b, _, none⟩) hb]; exact (hcell k hlt).1
      have hk2 : wr.cell? ⟨b, o + k * 4 + 1, none⟩ = some (.string l[k].token) := by rw [HR.out.2.cell (p := ⟨b, _, none⟩) hb]; exact (hcell k hlt).2.1
      have hk3 : wr.cell? ⟨b, o + k * 4 + 2, none⟩ = some (.string l[k].topic) := by rw [HR.out.2.cell (p := ⟨b, _, none⟩) hb]; exact (hcell k hlt).2.2.1
      have hk4 : wr.cell? ⟨b, o + k * 4 + 3, none⟩ = some (.int .i64 l[k].num) := by rw [HR.out.2.cell (p := ⟨b, _, none⟩) hb]; exact (hcell k hlt).2.2.2
      have HB := hide (HR.out.2.alloc hsz (.cells #[.int .i64 l[k].peer, .string l[k].token, .string l[k].topic, .int .i64 l[k].num] 30))
      have C := hide (HC.out l[k])
      have CK := hide (fun W => clone_wt l[k] W (HS.out _ (List.getElem_mem _)).1 (HS.out _ (List.getElem_mem _)).2)
      have HSN := hide (wfilter_snoc f l k hlt)
      have hle : ((l.take k).filter fun k => !f k).length ≤ 12 := Nat.le_trans (List.length_filter_le _ _) (by rw [List.length_take]; omega)
      clear hcell HL HS HC
      generalize hkk : l[k] = x at *
      clear hkk
      generalize ((l.take k).filter fun k => !f k) = X at *
      generalize f x = Y at *
      obtain ⟨p, t, n, v⟩ := x
      simp only [wtV] at hk1 hk2 hk3 hk4 HB C CK HSN
      have d0 := wt_cells wr (.int .i64 p) (.string t) (.string n) (.int .i64 v)
      have hz : wr.heap.size < (wr.alloc (.cells #[.int .i64 p, .string t, .string n, .int .i64 v] 30)).heap.size := by simp
      have HO0 : Hid ((wr.alloc (.cells #[.int .i64 p, .string t, .string n, .int .i64 v] 30)).ownsRow w.heap.size 30 4 (.slice aa X.length ca) X.length (wtCells X)) := HR.out.1.alloc _
      go_wp2_with fail
      refine (C.out _ HB.out).mono ?_
      rintro e w1 ⟨rfl, hb1⟩
      have HB1 := hide (HB.out.trans (hb1.mono HB.out.size))
      have d1 : ∀ o, w1.cell? ⟨wr.heap.size, o, none⟩ = (#[.int .i64 p, .string t, .string n, .int .i64 v] : Array Value)[o]? := fun o => (hb1.cell (p := ⟨wr.heap.size, o, none⟩) hz).trans (d0 o)
      have HO1 : Hid (w1.ownsRow w.heap.size 30 4 (.slice aa X.length ca) X.length (wtCells X)) := kown_below HO0.out hb1
      clear hb1 d0 hz HB C HO0
      cases Y with
      | true =>
        have HQ : Hid ((l.take (k + 1)).filter (fun k => !f k) = X) := by show _ = _; have := HSN.out; simpa using this
        go_wp2
        go_round
        case rel => exact ⟨k + 1, aa, ca, by omega, by go_num, by rw [HQ.out], by rw [HQ.out]; exact HO1.out, HB1.out⟩
        case measure => simp [intOf]; omega
      | false =>
        have HQ : Hid ((l.take (k + 1)).filter (fun k => !f k) = X ++ [⟨p, t, n, v⟩]) := by show _ = _; have := HSN.out; simpa using this
        go_wp2_with fail
        refine (CK.out _).mono ?_
        rintro e w2 ⟨rfl, hb2⟩
        have HB2 := hide (HB1.out.trans (hb2.mono HB1.out.size))
        have HO2 : Hid (w2.ownsRow w.heap.size 30 4 (.slice aa X.length ca) X.length (wtCells X)) := kown_below HO1.out hb2
        have hs2 := HB2.out.size
        clear hb2
        go_wp2_with (at_builtin; refine wpList_append_lies _ rfl _ _ 22 rfl w.heap.size 30 i0 _ 4 48 Tryd.underlying22 hi hz0 hz1 hz2 rfl (by decide) _ _ _ rfl (HO2.out.alloc (.cells #[.int .i64 p, .string t, .string n, .int .i64 v] 30)) ⟨w2.heap.size, 0, none⟩ 1 1 [.int .i64 p, .string t, .string n, .int .i64 v] rfl rfl (World.news_of_block (cs := #[.int .i64 p, .string t, .string n, .int .i64 v]) (t := 30) (fr := (0, 0)) (Go.heap_alloc_new w2 _)) (by simp [Value.oneCell']) (by decide) (by unfold maxLen; omega) (by omega) (by simp; omega) _ rfl ?_)
        intro g cap w3 hown hgrow hat hg
        have HO3 : Hid (w3.ownsRow w.heap.size 30 4 (.slice (some ⟨g, 0, none⟩) (X.length + 1) cap) (X.length + 1) (wtCells (X ++ [⟨p, t, n, v⟩]))) := by rw [wtCells_append]; exact hown
        have HB3 : Hid (Below w.heap.size w w3) := Below.grown (HB2.out.alloc hs2 _) hgrow (by simp; omega) (fun g' hg' => (kown_at HO2.out hg').1)
        clear hown hgrow hat hg
        go_wp2
        go_round
        case rel => exact ⟨k + 1, some ⟨g, 0, none⟩, cap, by omega, by go_num, by rw [HQ.out, List.length_append]; rfl, by rw [HQ.out, List.length_append]; exact HO3.out, HB3.out⟩
        case measure => simp [intOf]; omega
    · have hke : l.take k = l := List.take_of_length_le (by omega)
      rw [hke, HR0.out] at HR ⊢
      clear hke
      go_wp2
      go_ret
      exact ⟨_, rfl, HR.out.1, HR.out.2⟩

end Go.Proofs.YtbodjfmbdddieafDoor
