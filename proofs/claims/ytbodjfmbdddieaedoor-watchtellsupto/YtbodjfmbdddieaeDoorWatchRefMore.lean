/-
  dragomanref.CancelOf, AddWatch, TellOf, IsFresh: what they answer.
-/
import Derived.Test.YtbodjfmbdddieaeDoorWatchTell
namespace Go.Proofs.YtbodjfmbdddieaeDoor
open Go.RowKit Go.PlainAid

set_option maxHeartbeats 4000000 in
set_option maxRecDepth 100000 in
theorem cancelOf_any (l : List Wt) (p : Int) (t : ByteArray) (ao : Option Addr) (co : Nat) (w : World) (hl : WtsIn w ao l) (hn : l.length ≤ 12) :
    Calls Tryd.prog 33 #[.slice ao l.length co, .int .i64 p, .string t] w (WRow w (offW l p t)) := by
  obtain ⟨i0, hi, hz0, hz1, hz2⟩ := info_parts (show (Tryd.prog.info? 109).map (fun i => (i.zero, i.size, i.bytes)) = some (some (.agg #[.int .i64 0, .string ⟨#[]⟩, .string ⟨#[]⟩, .int .i64 0]), 4, 48) by kernel_rfl)
  have HR0 : Hid (l.filter (fun k => !isW p t k) = offW l p t) := rfl
  have HL := hide hl
  clear hl
  generalize offW l p t = R at *
  go_enter Tryd.func33, Tryd.ntmps33
  go_wp2
  go_loopw [7, 8] (fun a i wr => ∃ (k : Nat) (aa : Option Addr) (ca : Nat), k ≤ l.length ∧ i = .int .i64 k ∧ a = .slice aa ((l.take k).filter fun k => !isW p t k).length ca ∧ Hid (wr.ownsRow w.heap.size 109 4 (.slice aa ((l.take k).filter fun k => !isW p t k).length ca) ((l.take k).filter fun k => !isW p t k).length (wtCells ((l.take k).filter fun k => !isW p t k)) ∧ Below w.heap.size w wr)) (fun _ i _ => l.length - (intOf i).toNat)
  case atStart => exact ⟨0, none, 0, by omega, rfl, rfl, World.ownsRow_nil _ _ _ _, Below.refl _ _⟩
  case round =>
    obtain ⟨k, aa, ca, hk, rfl, rfl, HR⟩ := hrel
    have hsz := HR.out.2.size
    by_cases hlt : k < l.length
    · obtain ⟨b, o, rfl, hb, hcell⟩ := wts_here HL.out hlt
      have hk1 : wr.cell? ⟨b, o + k * 4, none⟩ = some (.int .i64 l[k].peer) := by rw [HR.out.2.cell (p := ⟨b, _, none⟩) hb]; exact (hcell k hlt).1
      have hk2 : wr.cell? ⟨b, o + k * 4 + 1, none⟩ = some (.string l[k].token) := by rw [HR.out.2.cell (p := ⟨b, _, none⟩) hb]; exact (hcell k hlt).2.1
      have hk3 : wr.cell? ⟨b, o + k * 4 + 2, none⟩ = some (.string l[k].topic) := by rw [HR.out.2.cell (p := ⟨b, _, none⟩) hb]; exact (hcell k hlt).2.2.1
      have hk4 : wr.cell? ⟨b, o + k * 4 + 3, none⟩ = some (.int .i64 l[k].num) := by rw [HR.out.2.cell (p := ⟨b, _, none⟩) hb]; exact (hcell k hlt).2.2.2
      have HSN := hide (wfilter_snoc (isW p t) l k hlt)
      have hle : ((l.take k).filter fun k => !isW p t k).length ≤ 12 := Nat.le_trans (List.length_filter_le _ _) (by rw [List.length_take]; omega)
      have HW : Hid (isW p t l[k] = (decide (l[k].peer = p) && decide (l[k].token = t))) := rfl
      have HT := hide (txt_eq l[k].token t)
      clear hcell HL
      generalize hkk : l[k] = x at *
      clear hkk
      generalize ((l.take k).filter fun k => !isW p t k) = X at *
      generalize isW p t x = Y at *
      obtain ⟨q, u, n, v⟩ := x
      simp only at hk1 hk2 hk3 hk4 HSN HW HT
      by_cases h2 : q = p
      · by_cases h3 : u = t
        · have h2' : (q != p) = false := by simp [h2]
          have h3' : (u.toList == t.toList) = true := by rw [HT.out, decide_eq_true h3]
          have hY : Y = true := by rw [HW.out, decide_eq_true h2, decide_eq_true h3]; rfl
          have HQ : Hid ((l.take (k + 1)).filter (fun k => !isW p t k) = X) := by show _ = _; have := HSN.out; rw [hY] at this; simpa using this
          clear HSN HW HT hY h2 h3
          go_wp2
          go_round
          case rel => exact ⟨k + 1, aa, ca, by omega, by go_num, by rw [HQ.out], by rw [HQ.out]; exact HR.out.1, HR.out.2⟩
          case measure => simp [intOf]; omega
        · have h2' : (q != p) = false := by simp [h2]
          have h3' : (u.toList == t.toList) = false := by rw [HT.out, decide_eq_false h3]
          have hY : Y = false := by rw [HW.out, decide_eq_true h2, decide_eq_false h3]; rfl
          have HQ : Hid ((l.take (k + 1)).filter (fun k => !isW p t k) = X ++ [⟨q, u, n, v⟩]) := by show _ = _; have := HSN.out; rw [hY] at this; simpa using this
          clear HSN HW HT hY h2 h3
          have HO := hide HR.out.1
          have HB := hide HR.out.2
          clear HR
          go_wp2_with (at_builtin; refine wpList_append_lies _ rfl _ _ 57 rfl w.heap.size 109 i0 _ 4 48 Tryd.underlying57 hi hz0 hz1 hz2 rfl (by decide) _ _ _ rfl (HO.out.alloc (.cells #[.int .i64 q, .string u, .string n, .int .i64 v] 109)) ⟨wr.heap.size, 0, none⟩ 1 1 [.int .i64 q, .string u, .string n, .int .i64 v] rfl rfl (World.news_of_block (cs := #[.int .i64 q, .string u, .string n, .int .i64 v]) (t := 109) (fr := (0, 0)) (Go.heap_alloc_new wr _)) (by simp [Value.oneCell']) (by decide) (by unfold maxLen; omega) (by omega) (by simp; omega) _ rfl ?_)
          intro g cap w3 hown hgrow hat hg
          have HO3 : Hid (w3.ownsRow w.heap.size 109 4 (.slice (some ⟨g, 0, none⟩) (X.length + 1) cap) (X.length + 1) (wtCells (X ++ [⟨q, u, n, v⟩]))) := by rw [wtCells_append]; exact hown
          have HB3 : Hid (Below w.heap.size w w3) := Below.grown (HB.out.alloc hsz _) hgrow (by simp; omega) (fun g' hg' => (kown_at HO.out hg').1)
          clear hown hgrow hat hg
          go_wp2
          go_round
          case rel => exact ⟨k + 1, some ⟨g, 0, none⟩, cap, by omega, by go_num, by rw [HQ.out, List.length_append]; rfl, by rw [HQ.out, List.length_append]; exact HO3.out, HB3.out⟩
          case measure => simp [intOf]; omega
      · have h2' : (q != p) = true := by simp [h2]
        have hY : Y = false := by rw [HW.out, decide_eq_false h2]; rfl
        have HQ : Hid ((l.take (k + 1)).filter (fun k => !isW p t k) = X ++ [⟨q, u, n, v⟩]) := by show _ = _; have := HSN.out; rw [hY] at this; simpa using this
        clear HSN HW HT hY h2
        have HO := hide HR.out.1
        have HB := hide HR.out.2
        clear HR
        go_wp2_with (at_builtin; refine wpList_append_lies _ rfl _ _ 57 rfl w.heap.size 109 i0 _ 4 48 Tryd.underlying57 hi hz0 hz1 hz2 rfl (by decide) _ _ _ rfl (HO.out.alloc (.cells #[.int .i64 q, .string u, .string n, .int .i64 v] 109)) ⟨wr.heap.size, 0, none⟩ 1 1 [.int .i64 q, .string u, .string n, .int .i64 v] rfl rfl (World.news_of_block (cs := #[.int .i64 q, .string u, .string n, .int .i64 v]) (t := 109) (fr := (0, 0)) (Go.heap_alloc_new wr _)) (by simp [Value.oneCell']) (by decide) (by unfold maxLen; omega) (by omega) (by simp; omega) _ rfl ?_)
        intro g cap w3 hown hgrow hat hg
        have HO3 : Hid (w3.ownsRow w.heap.size 109 4 (.slice (some ⟨g, 0, none⟩) (X.length + 1) cap) (X.length + 1) (wtCells (X ++ [⟨q, u, n, v⟩]))) := by rw [wtCells_append]; exact hown
        have HB3 : Hid (Below w.heap.size w w3) := Below.grown (HB.out.alloc hsz _) hgrow (by simp; omega) (fun g' hg' => (kown_at HO.out hg').1)
        clear hown hgrow hat hg
        go_wp2
        go_round
        case rel => exact ⟨k + 1, some ⟨g, 0, none⟩, cap, by omega, by go_num, by rw [HQ.out, List.length_append]; rfl, by rw [HQ.out, List.length_append]; exact HO3.out, HB3.out⟩
        case measure => simp [intOf]; omega
    · have hke : l.take k = l := List.take_of_length_le (by omega)
      rw [hke, HR0.out] at HR ⊢
      clear hke
      go_wp2
      go_ret
      exact ⟨_, rfl, HR.out.1, HR.out.2⟩

def raddE (l : List Wt) (p : Int) (t : ByteArray) : Int := if (offW l p t).length = 12 then 2 else 0
def raddA (l : List Wt) (p : Int) (t n : ByteArray) : List Wt := if (offW l p t).length = 12 then [] else addL l p t n
set_option maxHeartbeats 2000000 in
set_option maxRecDepth 100000 in
theorem addWatch_any (l : List Wt) (p : Int) (t n : ByteArray) (ao : Option Addr) (co : Nat) (w : World) (hl : WtsIn w ao l) (hn : l.length ≤ 12) :
    Calls Tryd.prog 32 #[.slice ao l.length co, .int .i64 p, .string t, .string n] w (WPost w (raddA l p t n) (raddE l p t)) := by
  obtain ⟨i0, hi, hz0, hz1, hz2⟩ := info_parts (show (Tryd.prog.info? 109).map (fun i => (i.zero, i.size, i.bytes)) = some (some (.agg #[.int .i64 0, .string ⟨#[]⟩, .string ⟨#[]⟩, .int .i64 0]), 4, 48) by kernel_rfl)
  have C := hide (cancelOf_any l p t ao co w hl hn)
  have hol := off_len l p t
  unfold raddA raddE addL
  clear hl
  generalize offW l p t = X at *
  have hX : X.length ≤ 12 := by omega
  clear hn hol
  by_cases h : X.length = 12
  · rw [if_pos h, if_pos h]
    have h' : decide ((12 : Int) < (X.length : Int) + 1) = true := by simp; omega
    have h'' : (12 : Int) < ((X.length + 1 : Nat) : Int) := by omega
    clear h
    go_enter Tryd.func32, Tryd.ntmps32
    go_wp2_with fail
    refine C.out.mono ?_
    intro e w1 h1
    obtain ⟨v1, rfl, hown, hb1⟩ := h1
    obtain ⟨aa, ca, rfl⟩ := kown_form hown
    have HO := hide hown
    have HB := hide hb1
    have hs1 := hb1.size
    clear hown hb1 C
    go_wp2_with (at_builtin; refine wpList_append_lies _ rfl _ _ 57 rfl w.heap.size 109 i0 _ 4 48 Tryd.underlying57 hi hz0 hz1 hz2 rfl (by decide) _ _ _ rfl (HO.out.alloc (.cells #[.int .i64 p, .string t, .string n, .int .i64 1] 109)) ⟨w1.heap.size, 0, none⟩ 1 1 [.int .i64 p, .string t, .string n, .int .i64 1] rfl rfl (World.news_of_block (cs := #[.int .i64 p, .string t, .string n, .int .i64 1]) (t := 109) (fr := (0, 0)) (Go.heap_alloc_new w1 _)) (by simp [Value.oneCell']) (by decide) (by unfold maxLen; omega) (by omega) (by simp; omega) _ rfl ?_)
    intro g cap w3 hown hgrow hat hg
    have HB3 : Hid (Below w.heap.size w w3) := Below.grown (HB.out.alloc hs1 _) hgrow (by simp; omega) (fun g' hg' => (kown_at HO.out hg').1)
    clear hown hgrow hat hg HO HB
    go_wp2
    go_ret2
    exact ⟨_, rfl, World.ownsRow_nil _ _ _ _, HB3.out⟩
  · rw [if_neg h, if_neg h]
    go_enter Tryd.func32, Tryd.ntmps32
    go_wp2_with fail
    refine C.out.mono ?_
    intro e w1 h1
    obtain ⟨v1, rfl, hown, hb1⟩ := h1
    obtain ⟨aa, ca, rfl⟩ := kown_form hown
    have HO := hide hown
    have HB := hide hb1
    have hs1 := hb1.size
    clear hown hb1 C
    have h'' : ¬ (12 : Int) < (X.length : Int) + 1 := by omega
    go_wp2_with (at_builtin; refine wpList_append_lies _ rfl _ _ 57 rfl w.heap.size 109 i0 _ 4 48 Tryd.underlying57 hi hz0 hz1 hz2 rfl (by decide) _ _ _ rfl (HO.out.alloc (.cells #[.int .i64 p, .string t, .string n, .int .i64 1] 109)) ⟨w1.heap.size, 0, none⟩ 1 1 [.int .i64 p, .string t, .string n, .int .i64 1] rfl rfl (World.news_of_block (cs := #[.int .i64 p, .string t, .string n, .int .i64 1]) (t := 109) (fr := (0, 0)) (Go.heap_alloc_new w1 _)) (by simp [Value.oneCell']) (by decide) (by unfold maxLen; omega) (by omega) (by simp; omega) _ rfl ?_)
    intro g cap w3 hown hgrow hat hg
    have HO3 : Hid (w3.ownsRow w.heap.size 109 4 (.slice (some ⟨g, 0, none⟩) (X ++ [⟨p, t, n, 1⟩] : List Wt).length cap) (X ++ [⟨p, t, n, 1⟩] : List Wt).length (wtCells (X ++ [⟨p, t, n, 1⟩]))) := by rw [wtCells_append, List.length_append]; exact hown
    have HB3 : Hid (Below w.heap.size w w3) := Below.grown (HB.out.alloc hs1 _) hgrow (by simp; omega) (fun g' hg' => (kown_at HO.out hg').1)
    clear hown hgrow hat hg HO HB
    go_wp2
    go_ret2
    exact ⟨_, by rw [List.length_append]; rfl, HO3.out, HB3.out⟩

set_option maxHeartbeats 1000000 in
theorem isFresh_any (a b : Int) (w : World) (ha : seqOk a = true) (hb : seqOk b = true) : Calls Tryd.prog 38 #[.int .i64 a, .int .i64 b] w fun e w' => e = .returned (.bool (freB a b)) ∧ w' = w := by
  have e := (fre_two ha hb).2
  obtain ⟨a1, a2⟩ := (seqOk_iff a).1 ha
  obtain ⟨b1, b2⟩ := (seqOk_iff b).1 hb
  rw [e]
  clear e ha hb
  have w1 : IntKind.i64.wrap (b - a) = b - a := by rw [IntKind.wrap_i64]; omega
  have w2 : IntKind.i64.wrap (a - b) = a - b := by rw [IntKind.wrap_i64]; omega
  by_cases h : a < b
  · rw [show ((decide (0 < b - a) && decide (b - a < 8388608)) || decide (b - a < -8388608)) = decide (b - a < 8388608) by rw [decide_eq_true (show 0 < b - a by omega), decide_eq_false (show ¬ b - a < -8388608 by omega)]; simp]
    go_enter Tryd.func38, Tryd.ntmps38
    go_wp2
    go_ret
    exact ⟨rfl, rfl⟩
  · rw [show ((decide (0 < b - a) && decide (b - a < 8388608)) || decide (b - a < -8388608)) = decide (8388608 < a - b) by rw [decide_eq_false (show ¬ 0 < b - a by omega)]; simp; omega]
    go_enter Tryd.func38, Tryd.ntmps38
    go_wp2
    go_ret
    exact ⟨rfl, rfl⟩
end Go.Proofs.YtbodjfmbdddieaeDoor
