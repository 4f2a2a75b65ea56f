/-
  dragomanref.TellOf, dragomanlaw.watchesAre: what they answer.
-/
import Derived.Test.YtbodjfmbdddieaeDoorWatchRefMore
import Derived.Test.YtbodjfmbdddieaeDoorWatchBegun
namespace Go.Proofs.YtbodjfmbdddieaeDoor
open Go.RowKit Go.PlainAid

/-- two rows that grow, each in a block of its own, and a box beside them -/
structure Tw (w : World) (X Y : List Wt) (v u : Value) (z : Nat) (c : Array Value) (W : World) : Prop where
  rv : W.ownsRow w.heap.size 109 4 v X.length (wtCells X)
  ru : W.ownsRow w.heap.size 109 4 u Y.length (wtCells Y)
  ne : ∀ g, v.ownBlock = some g → u.ownBlock ≠ some g
  bx : W.heap[z]? = some (.cells c 109 (0, 0))
  nv : v.ownBlock ≠ some z
  nu : u.ownBlock ≠ some z
  wz : w.heap.size ≤ z
  bel : Below w.heap.size w W
structure Tv (w : World) (X Y : List Wt) (v u : Value) (W : World) : Prop where
  rv : W.ownsRow w.heap.size 109 4 v X.length (wtCells X)
  ru : W.ownsRow w.heap.size 109 4 u Y.length (wtCells Y)
  ne : ∀ g, v.ownBlock = some g → u.ownBlock ≠ some g
  bel : Below w.heap.size w W
theorem Tw.two {w : World} {X Y : List Wt} {v u : Value} {z : Nat} {c : Array Value} {W : World} (h : Tw w X Y v u z c W) : Tv w X Y v u W := ⟨h.rv, h.ru, h.ne, h.bel⟩
theorem Tv.box {w : World} {X Y : List Wt} {v u : Value} {W : World} (h : Tv w X Y v u W) (c : Array Value) : Tw w X Y v u W.heap.size c (W.alloc (.cells c 109)) :=
  ⟨h.rv.alloc _, h.ru.alloc _, h.ne, Go.heap_alloc_new W _, fun e => by have := kown_lt h.rv e; omega, fun e => by have := kown_lt h.ru e; omega, h.bel.size, h.bel.alloc h.bel.size _⟩
theorem Tw.cell {w : World} {X Y : List Wt} {v u : Value} {z : Nat} {c : Array Value} {W : World} (h : Tw w X Y v u z c W) (o : Nat) : W.cell? ⟨z, o, none⟩ = c[o]? := Lib.cell_of_heap h.bx o
theorem Tw.lt {w : World} {X Y : List Wt} {v u : Value} {z : Nat} {c : Array Value} {W : World} (h : Tw w X Y v u z c W) : z < W.heap.size := (Array.getElem?_eq_some_iff.1 h.bx).1
theorem Tw.set {w : World} {X Y : List Wt} {v u : Value} {z : Nat} {c : Array Value} {W : World} (h : Tw w X Y v u z c W) (j : Nat) (x : Value) : Tw w X Y v u z (c.setIfInBounds j x) (W.setCell ⟨z, j, none⟩ x) :=
  ⟨kown_kept h.rv fun g hg => heap_setCell_other W ⟨z, j, none⟩ g x (fun e => h.nv (by rw [hg, e])), kown_kept h.ru fun g hg => heap_setCell_other W ⟨z, j, none⟩ g x (fun e => h.nu (by rw [hg, e])), h.ne, heap_setCell_same W z j c _ x h.bx, h.nv, h.nu, h.wz, h.bel.setCell (p := ⟨z, j, none⟩) h.wz x⟩
theorem Tw.alloc {w : World} {X Y : List Wt} {v u : Value} {z : Nat} {c : Array Value} {W : World} (h : Tw w X Y v u z c W) (o : Obj) : Tw w X Y v u z c (W.alloc o) :=
  ⟨h.rv.alloc o, h.ru.alloc o, h.ne, by rw [Below.heap_alloc _ _ _ h.lt]; exact h.bx, h.nv, h.nu, h.wz, h.bel.alloc h.bel.size o⟩
theorem grown_kept {W W' : World} {row : Option Nat} {N : Nat} {e : TypeId} {k : Nat} {v : Value} {n : Nat} {xs : List Value} (h : W.ownsRow N e k v n xs) (hg : W.grownBy W' row) (hne : ∀ g, v.ownBlock = some g → row ≠ some g) : W'.ownsRow N e k v n xs :=
  kown_kept h fun g hgb => hg.block g (kown_lt h hgb) (fun e => hne g hgb e.symm)
theorem Tw.growU {w : World} {X Y : List Wt} {v u : Value} {z : Nat} {c : Array Value} {W W' : World} (h : Tw w X Y v u z c W) (k : Wt) {g cap : Nat} (hown : W'.ownsRow w.heap.size 109 4 (.slice (some ⟨g, 0, none⟩) (Y.length + 1) cap) (Y.length + 1) (wtCells Y ++ wtCells [k]))
    (hgr : W.grownBy W' u.ownBlock) (hat : u.ownBlock = some g ∨ g = W.heap.size) : Tw w X (Y ++ [k]) v (.slice (some ⟨g, 0, none⟩) (Y ++ [k]).length cap) z c W' := by
  refine ⟨grown_kept h.rv hgr fun g' hg' e => h.ne g' hg' e, ?_, fun g' hg' e => ?_, ?_, h.nv, fun e => ?_, h.wz, Below.grown h.bel hgr h.bel.size (fun g' hg' => (kown_at h.ru hg').1)⟩
  · rw [wtCells_append, List.length_append]; exact hown
  · simp only [Value.ownBlock, Option.some.injEq] at e
    subst e
    rcases hat with hat | hat
    · exact h.ne _ hg' hat
    · have := kown_lt h.rv hg'; omega
  · rw [hgr.block z h.lt (fun e => h.nu e.symm)]; exact h.bx
  · simp only [Value.ownBlock, Option.some.injEq] at e
    subst e
    rcases hat with hat | hat
    · exact h.nu hat
    · have := h.lt; omega
theorem Tw.growV {w : World} {X Y : List Wt} {v u : Value} {z : Nat} {c : Array Value} {W W' : World} (h : Tw w X Y v u z c W) (k : Wt) {g cap : Nat} (hown : W'.ownsRow w.heap.size 109 4 (.slice (some ⟨g, 0, none⟩) (X.length + 1) cap) (X.length + 1) (wtCells X ++ wtCells [k]))
    (hgr : W.grownBy W' v.ownBlock) (hat : v.ownBlock = some g ∨ g = W.heap.size) : Tw w (X ++ [k]) Y (.slice (some ⟨g, 0, none⟩) (X ++ [k]).length cap) u z c W' := by
  refine ⟨?_, grown_kept h.ru hgr fun g' hg' e => h.ne g' e hg', fun g' hg' e => ?_, ?_, fun e => ?_, h.nu, h.wz, Below.grown h.bel hgr h.bel.size (fun g' hg' => (kown_at h.rv hg').1)⟩
  · rw [wtCells_append, List.length_append]; exact hown
  · simp only [Value.ownBlock, Option.some.injEq] at hg'
    subst hg'
    rcases hat with hat | hat
    · exact h.ne _ hat e
    · have := kown_lt h.ru e; omega
  · rw [hgr.block z h.lt (fun e => h.nv e.symm)]; exact h.bx
  · simp only [Value.ownBlock, Option.some.injEq] at e
    subst e
    rcases hat with hat | hat
    · exact h.nv hat
    · have := h.lt; omega

/-- two rows come -/
def RPost (w : World) (L M : List Wt) (e : Ending) (w' : World) : Prop := ∃ v u, e = .returned (.tuple #[v, u]) ∧ Tv w L M v u w'
theorem RPost.inn {w : World} {L M : List Wt} {e : Ending} {w' : World} (h : RPost w L M e w') : ∃ aa ca ab cb, e = .returned (.tuple #[.slice aa L.length ca, .slice ab M.length cb]) ∧ WtsIn w' aa L ∧ WtsIn w' ab M ∧ Below w.heap.size w w' := by
  obtain ⟨v, u, he, ht⟩ := h
  obtain ⟨aa, ca, rfl, h1, h2⟩ := own_wts ht.rv
  obtain ⟨ab, cb, rfl, h3, h4⟩ := own_wts ht.ru
  exact ⟨aa, ca, ab, cb, he, h1, h3, ht.bel⟩

theorem telL_next (l : List Wt) (n : ByteArray) (k : Nat) (h : k < l.length) : telL (l.take (k + 1)) n = telL (l.take k) n ++ [upW n l[k]] := by
  unfold telL
  rw [List.take_succ_eq_append_getElem h, List.map_append]
  rfl
theorem telS_hit (l : List Wt) (n : ByteArray) (k : Nat) (h : k < l.length) (ht : l[k].topic = n) : telS (l.take (k + 1)) n = telS (l.take k) n ++ [upW n l[k]] := by
  unfold telS
  rw [telL_next l n k h, List.filter_append]
  simp [ofT, upW, ht]
theorem telS_miss (l : List Wt) (n : ByteArray) (k : Nat) (h : k < l.length) (ht : l[k].topic ≠ n) : telS (l.take (k + 1)) n = telS (l.take k) n := by
  unfold telS
  rw [telL_next l n k h, List.filter_append]
  simp [ofT, upW, ht]
theorem tel_lens (l : List Wt) (n : ByteArray) (k : Nat) (hl : l.length ≤ 12) : (telL (l.take k) n).length ≤ 12 ∧ (telS (l.take k) n).length ≤ 12 := by
  have h1 : (telL (l.take k) n).length ≤ 12 := by unfold telL; rw [List.length_map, List.length_take]; omega
  exact ⟨h1, Nat.le_trans (List.length_filter_le _ _) h1⟩

set_option maxHeartbeats 8000000 in
set_option maxRecDepth 100000 in
theorem tellOf_any (l : List Wt) (n : ByteArray) (ao : Option Addr) (co : Nat) (w : World) (hl : WtsIn w ao l) (hk : wchkK l = 0) :
    Calls Tryd.prog 34 #[.slice ao l.length co, .string n] w (RPost w (telL l n) (telS l n)) := by
  obtain ⟨i0, hi, hz0, hz1, hz2⟩ := info_parts (show (Tryd.prog.info? 109).map (fun i => (i.zero, i.size, i.bytes)) = some (some (.agg #[.int .i64 0, .string ⟨#[]⟩, .string ⟨#[]⟩, .int .i64 0]), 4, 48) by kernel_rfl)
  have HNUM : Hid (∀ k ∈ l, seqOk k.num = true) := fun k hx => (wchkO_parts (((wchkK_iff l).1 hk).2.1 k hx)).2.2
  have hn := ((wchkK_iff l).1 hk).1
  have HL := hide hl
  clear hl hk
  go_enter Tryd.func34, Tryd.ntmps34
  go_wp2
  go_loopw [6, 7, 8] (fun a s i wr => ∃ (k : Nat) (aa ab : Option Addr) (ca cb : Nat), k ≤ l.length ∧ i = .int .i64 k ∧ a = .slice aa (telL (l.take k) n).length ca ∧ s = .slice ab (telS (l.take k) n).length cb ∧ Hid (Tv w (telL (l.take k) n) (telS (l.take k) n) (.slice aa (telL (l.take k) n).length ca) (.slice ab (telS (l.take k) n).length cb) wr)) (fun _ _ i _ => l.length - (intOf i).toNat)
  case atStart => exact ⟨0, none, none, 0, 0, by omega, rfl, rfl, rfl, World.ownsRow_nil _ _ _ _, World.ownsRow_nil _ _ _ _, fun g hg => (by simp [Value.ownBlock] at hg), Below.refl _ _⟩
  case round =>
    obtain ⟨k, aa, ab, ca, cb, hk, rfl, rfl, rfl, HR⟩ := hrel
    by_cases hlt : k < l.length
    · obtain ⟨b, o, rfl, hb, hcell⟩ := wts_here (HL.out.below HR.out.bel) hlt
      obtain ⟨hk1, hk2, hk3, hk4⟩ := hcell k hlt
      obtain ⟨hm1, hm2⟩ := tel_lens l n k hn
      have hv := (seqOk_iff _).1 (HNUM.out l[k] (List.getElem_mem hlt))
      have HTX := hide (txt_eq l[k].topic n)
      have HNL := hide (telL_next l n k hlt)
      have HW := hide (fun c => HR.out.box c)
      have hkl : (k : Int) < l.length := by omega
      by_cases ht : l[k].topic = n
      · have HNS := hide (telS_hit l n k hlt ht)
        have ht' : (l[k].topic.toList == n.toList) = true := by rw [HTX.out, decide_eq_true ht]
        rw [upW_eq ht] at HNL HNS
        clear hcell HL HNUM HTX ht HR
        generalize telL (l.take k) n = X at *
        generalize telS (l.take k) n = Y at *
        generalize l[k].peer = p at *
        generalize l[k].token = t at *
        generalize l[k].topic = c at *
        generalize l[k].num = v at *
        have hwr : IntKind.i64.wrap (v + 1) = v + 1 := by rw [IntKind.wrap_i64]; omega
        by_cases hov : v = 16777215
        · have hnv : nextN v = 0 := if_pos hov
          have hle : (16777215 : Int) < v + 1 := by omega
          rw [hnv] at HNL HNS
          have HW1 := hide (HW.out #[.int .i64 p, .string t, .string c, .int .i64 0])
          clear HW hov hnv
          go_upto_region 10 with fail
          generalize wr.alloc (.cells #[.int .i64 p, .string t, .string c, .int .i64 0] 109) = W1 at *
          generalize wr.heap.size = z at *
          have d1 := fun o => HW1.out.cell o
          go_wp2_with (at_builtin; refine wpList_append_lies _ rfl _ _ 57 rfl w.heap.size 109 i0 _ 4 48 Tryd.underlying57 hi hz0 hz1 hz2 rfl (by decide) _ _ _ rfl (HW1.out.ru.alloc (.cells #[.int .i64 p, .string t, .string c, .int .i64 0] 109)) ⟨W1.heap.size, 0, none⟩ 1 1 [.int .i64 p, .string t, .string c, .int .i64 0] rfl rfl (World.news_of_block (cs := #[.int .i64 p, .string t, .string c, .int .i64 0]) (t := 109) (fr := (0, 0)) (Go.heap_alloc_new W1 _)) (by simp [Value.oneCell']) (by decide) (by unfold maxLen; omega) (by omega) (HW1.out.alloc (.cells #[.int .i64 p, .string t, .string c, .int .i64 0] 109)).bel.size _ rfl ?_)
          intro g cap w3 hown hgrow hat hg
          have HW3 := hide ((HW1.out.alloc (.cells #[.int .i64 p, .string t, .string c, .int .i64 0] 109)).growU ⟨p, t, c, 0⟩ hown hgrow (hat.imp id fun e => by simp [e]))
          have d3 := fun o => HW3.out.cell o
          clear hown hgrow hat hg HW1 d1
          go_wp2_with (at_builtin; refine wpList_append_lies _ rfl _ _ 57 rfl w.heap.size 109 i0 _ 4 48 Tryd.underlying57 hi hz0 hz1 hz2 rfl (by decide) _ _ _ rfl (HW3.out.rv.alloc (.cells #[.int .i64 p, .string t, .string c, .int .i64 0] 109)) ⟨w3.heap.size, 0, none⟩ 1 1 [.int .i64 p, .string t, .string c, .int .i64 0] rfl rfl (World.news_of_block (cs := #[.int .i64 p, .string t, .string c, .int .i64 0]) (t := 109) (fr := (0, 0)) (Go.heap_alloc_new w3 _)) (by simp [Value.oneCell']) (by decide) (by unfold maxLen; omega) (by omega) (HW3.out.alloc (.cells #[.int .i64 p, .string t, .string c, .int .i64 0] 109)).bel.size _ rfl ?_)
          intro g4 cap4 w4 hown hgrow hat hg
          have HW4 := hide (((HW3.out.alloc (.cells #[.int .i64 p, .string t, .string c, .int .i64 0] 109)).growV ⟨p, t, c, 0⟩ hown hgrow (hat.imp id fun e => by simp [e])).two)
          clear hown hgrow hat hg HW3 d3
          go_wp2
          go_round
          case rel => exact ⟨k + 1, some ⟨g4, 0, none⟩, some ⟨g, 0, none⟩, cap4, cap, by omega, by go_num, by rw [HNL.out, List.length_append]; rfl, by rw [HNS.out, List.length_append]; rfl, by rw [HNL.out, HNS.out]; exact HW4.out⟩
          case measure => simp [intOf]; omega
        · have hnv : nextN v = v + 1 := if_neg hov
          have hle : ¬ (16777215 : Int) < v + 1 := by omega
          rw [hnv] at HNL HNS
          have HW1 := hide (HW.out #[.int .i64 p, .string t, .string c, .int .i64 (v + 1)])
          clear HW hov hnv
          go_upto_region 10 with fail
          generalize wr.alloc (.cells #[.int .i64 p, .string t, .string c, .int .i64 (v + 1)] 109) = W1 at *
          generalize wr.heap.size = z at *
          have d1 := fun o => HW1.out.cell o
          go_wp2_with (at_builtin; refine wpList_append_lies _ rfl _ _ 57 rfl w.heap.size 109 i0 _ 4 48 Tryd.underlying57 hi hz0 hz1 hz2 rfl (by decide) _ _ _ rfl (HW1.out.ru.alloc (.cells #[.int .i64 p, .string t, .string c, .int .i64 (v + 1)] 109)) ⟨W1.heap.size, 0, none⟩ 1 1 [.int .i64 p, .string t, .string c, .int .i64 (v + 1)] rfl rfl (World.news_of_block (cs := #[.int .i64 p, .string t, .string c, .int .i64 (v + 1)]) (t := 109) (fr := (0, 0)) (Go.heap_alloc_new W1 _)) (by simp [Value.oneCell']) (by decide) (by unfold maxLen; omega) (by omega) (HW1.out.alloc (.cells #[.int .i64 p, .string t, .string c, .int .i64 (v + 1)] 109)).bel.size _ rfl ?_)
          intro g cap w3 hown hgrow hat hg
          have HW3 := hide ((HW1.out.alloc (.cells #[.int .i64 p, .string t, .string c, .int .i64 (v + 1)] 109)).growU ⟨p, t, c, v + 1⟩ hown hgrow (hat.imp id fun e => by simp [e]))
          have d3 := fun o => HW3.out.cell o
          clear hown hgrow hat hg HW1 d1
          go_wp2_with (at_builtin; refine wpList_append_lies _ rfl _ _ 57 rfl w.heap.size 109 i0 _ 4 48 Tryd.underlying57 hi hz0 hz1 hz2 rfl (by decide) _ _ _ rfl (HW3.out.rv.alloc (.cells #[.int .i64 p, .string t, .string c, .int .i64 (v + 1)] 109)) ⟨w3.heap.size, 0, none⟩ 1 1 [.int .i64 p, .string t, .string c, .int .i64 (v + 1)] rfl rfl (World.news_of_block (cs := #[.int .i64 p, .string t, .string c, .int .i64 (v + 1)]) (t := 109) (fr := (0, 0)) (Go.heap_alloc_new w3 _)) (by simp [Value.oneCell']) (by decide) (by unfold maxLen; omega) (by omega) (HW3.out.alloc (.cells #[.int .i64 p, .string t, .string c, .int .i64 (v + 1)] 109)).bel.size _ rfl ?_)
          intro g4 cap4 w4 hown hgrow hat hg
          have HW4 := hide (((HW3.out.alloc (.cells #[.int .i64 p, .string t, .string c, .int .i64 (v + 1)] 109)).growV ⟨p, t, c, v + 1⟩ hown hgrow (hat.imp id fun e => by simp [e])).two)
          clear hown hgrow hat hg HW3 d3
          go_wp2
          go_round
          case rel => exact ⟨k + 1, some ⟨g4, 0, none⟩, some ⟨g, 0, none⟩, cap4, cap, by omega, by go_num, by rw [HNL.out, List.length_append]; rfl, by rw [HNS.out, List.length_append]; rfl, by rw [HNL.out, HNS.out]; exact HW4.out⟩
          case measure => simp [intOf]; omega
      · have HNS := hide (telS_miss l n k hlt ht)
        have ht' : (l[k].topic.toList == n.toList) = false := by rw [HTX.out, decide_eq_false ht]
        rw [upW_ne ht] at HNL
        clear hcell HL HNUM HTX ht HR
        generalize telL (l.take k) n = X at *
        generalize telS (l.take k) n = Y at *
        generalize hx : l[k] = x at *
        clear hx
        obtain ⟨p, t, c, v⟩ := x
        simp only at hk1 hk2 hk3 hk4 ht' hv
        have HW1 := hide (HW.out #[.int .i64 p, .string t, .string c, .int .i64 v])
        clear HW hv
        go_upto_region 11 with fail
        generalize wr.alloc (.cells #[.int .i64 p, .string t, .string c, .int .i64 v] 109) = W1 at *
        generalize wr.heap.size = z at *
        have d1 := fun o => HW1.out.cell o
        go_wp2_with (at_builtin; refine wpList_append_lies _ rfl _ _ 57 rfl w.heap.size 109 i0 _ 4 48 Tryd.underlying57 hi hz0 hz1 hz2 rfl (by decide) _ _ _ rfl (HW1.out.rv.alloc (.cells #[.int .i64 p, .string t, .string c, .int .i64 v] 109)) ⟨W1.heap.size, 0, none⟩ 1 1 [.int .i64 p, .string t, .string c, .int .i64 v] rfl rfl (World.news_of_block (cs := #[.int .i64 p, .string t, .string c, .int .i64 v]) (t := 109) (fr := (0, 0)) (Go.heap_alloc_new W1 _)) (by simp [Value.oneCell']) (by decide) (by unfold maxLen; omega) (by omega) (HW1.out.alloc (.cells #[.int .i64 p, .string t, .string c, .int .i64 v] 109)).bel.size _ rfl ?_)
        intro g4 cap4 w4 hown hgrow hat hg
        have HW4 := hide (((HW1.out.alloc (.cells #[.int .i64 p, .string t, .string c, .int .i64 v] 109)).growV ⟨p, t, c, v⟩ hown hgrow (hat.imp id fun e => by simp [e])).two)
        clear hown hgrow hat hg HW1 d1
        go_wp2
        go_round
        case rel => exact ⟨k + 1, some ⟨g4, 0, none⟩, ab, cap4, cb, by omega, by go_num, by rw [HNL.out, List.length_append]; rfl, by rw [HNS.out], by rw [HNL.out, HNS.out]; exact HW4.out⟩
        case measure => simp [intOf]; omega
    · have hke : l.take k = l := List.take_of_length_le (by omega)
      rw [hke] at HR ⊢
      clear hke HNUM
      go_wp2
      go_ret2
      exact ⟨_, _, rfl, HR.out⟩
end Go.Proofs.YtbodjfmbdddieaeDoor
