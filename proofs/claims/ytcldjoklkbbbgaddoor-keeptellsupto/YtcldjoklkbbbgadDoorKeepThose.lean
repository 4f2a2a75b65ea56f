/-
  keep.clone, those (whatever its function tells), the function literals, by, nextVersion: what they answer.
-/
import Derived.Test.YtcldjoklkbbbgadDoorKeepSmall
import Derived.Deep.AppendLies
import Derived.Deep.DeepCutAuto
namespace Go.Proofs.YtcldjoklkbbbgadDoor
open Go.RowKit Go.PlainAid

/-- while a copy is made: the box that was handed in, the box of the answer -/
structure Cl (w : World) (b1 b2 : Nat) (o1 o2 : Obj) (W : World) : Prop where
  a1 : W.heap[b1]? = some o1
  a2 : W.heap[b2]? = some o2
  bel : Below w.heap.size w W
theorem Cl.step {w : World} {b1 b2 : Nat} {o1 o2 : Obj} {W W' : World} (h : Cl w b1 b2 o1 o2 W) (hb : Below W.heap.size W W') : Cl w b1 b2 o1 o2 W' :=
  ⟨(hb.block b1 (Array.getElem?_eq_some_iff.1 h.a1).1).trans h.a1, (hb.block b2 (Array.getElem?_eq_some_iff.1 h.a2).1).trans h.a2, h.bel.trans (hb.mono h.bel.size)⟩
theorem Cl.drew {w : World} {b1 b2 : Nat} {o1 o2 : Obj} {W : World} (h : Cl w b1 b2 o1 o2 W) : Cl w b1 b2 o1 o2 W.drew := ⟨h.a1, h.a2, h.bel.drew⟩
theorem Cl.cell1 {w : World} {b1 b2 : Nat} {c : Array Value} {t : TypeId} {o2 : Obj} {W : World} (h : Cl w b1 b2 (.cells c t (0, 0)) o2 W) (o : Nat) : W.cell? ⟨b1, o, none⟩ = c[o]? := Lib.cell_of_heap h.a1 o
theorem Cl.cell2 {w : World} {b1 b2 : Nat} {c : Array Value} {t : TypeId} {o1 : Obj} {W : World} (h : Cl w b1 b2 o1 (.cells c t (0, 0)) W) (o : Nat) : W.cell? ⟨b2, o, none⟩ = c[o]? := Lib.cell_of_heap h.a2 o
theorem Cl.frozen2 {w : World} {b1 b2 : Nat} {c : Array Value} {t : TypeId} {o1 : Obj} {W : World} (h : Cl w b1 b2 o1 (.cells c t (0, 0)) W) (o : Nat) : W.frozen? ⟨b2, o, none⟩ = false := Lib.frozen_of_heap h.a2 o

theorem kthree_below {w w' : World} {N b : Nat} (h : Below N w w') (hb : N ≤ b) (x y z : Value) : Below N w (((w'.setCell ⟨b, 0, none⟩ x).setCell ⟨b, 1, none⟩ y).setCell ⟨b, 2, none⟩ z) := ((h.setCell (p := ⟨b, 0, none⟩) hb x).setCell (p := ⟨b, 1, none⟩) hb y).setCell (p := ⟨b, 2, none⟩) hb z

set_option maxHeartbeats 2000000 in
set_option maxRecDepth 100000 in
theorem clone_kp (k : Kp) (w : World) (h1 : k.topic.size ≤ 281474976710656) (h2 : k.payload.size ≤ 281474976710656) : Calls Tryd.prog 20 #[kpV k] w fun e w' => e = .returned (kpV k) ∧ Below w.heap.size w w' := by
  obtain ⟨t, p, v⟩ := k
  simp only [kpV] at *
  have CT := hide (fun W => kclone_any t W h1)
  have CP := hide (fun W => kclone_any p W h2)
  clear h1 h2
  have HI : Hid (Cl w w.heap.size (w.heap.size + 1) (.cells #[.string t, .string p, .int .i64 v] 27 (0, 0)) (.cells #[.string ⟨#[]⟩, .string ⟨#[]⟩, .int .i64 0] 27 (0, 0)) ((w.alloc (.cells #[.string t, .string p, .int .i64 v] 27)).alloc (.cells #[.string ⟨#[]⟩, .string ⟨#[]⟩, .int .i64 0] 27))) := by
    refine ⟨?_, ?_, ((Below.refl w.heap.size w).alloc (Nat.le_refl _) _).alloc (by simp) _⟩
    · rw [Below.heap_alloc _ _ _ (by simp)]; exact Go.heap_alloc_new w _
    · have := Go.heap_alloc_new (w.alloc (.cells #[.string t, .string p, .int .i64 v] 27)) (.cells #[.string ⟨#[]⟩, .string ⟨#[]⟩, .int .i64 0] 27)
      simpa using this
  go_enter Tryd.func20, Tryd.ntmps20
  go_upto_region 1 with fail
  revert HI
  generalize (w.alloc (.cells #[.string t, .string p, .int .i64 v] 27)).alloc (.cells #[.string ⟨#[]⟩, .string ⟨#[]⟩, .int .i64 0] 27) = W
  intro HI
  have hb2 : w.heap.size ≤ w.heap.size + 1 := by omega
  generalize hc : w.heap.size + 1 = c2 at *
  have q0 : W.cell? ⟨w.heap.size, 0, none⟩ = some (.string t) := HI.out.cell1 0
  have q1 : W.cell? ⟨w.heap.size, 1, none⟩ = some (.string p) := HI.out.cell1 1
  have q2 : W.cell? ⟨w.heap.size, 2, none⟩ = some (.int .i64 v) := HI.out.cell1 2
  have z0 : ∀ o, W.cell? ⟨c2, o, none⟩ = (#[.string ⟨#[]⟩, .string ⟨#[]⟩, .int .i64 0] : Array Value)[o]? := HI.out.cell2
  have hne : w.heap.size ≠ c2 := by omega
  clear hc
  go_region_held3 (fun w' => w'.cell? ⟨w.heap.size, 0, none⟩ = some (.string t) ∧ w'.cell? ⟨w.heap.size, 1, none⟩ = some (.string p) ∧ w'.cell? ⟨w.heap.size, 2, none⟩ = some (.int .i64 v)) (first
      | go_keep
      | (go_split_ands; refine ⟨?_, ?_, ?_⟩ <;> (rw [World.cell?_setCell_other _ _ _ _ (by simp), World.cell?_setCell_other _ _ _ _ (by simp), World.cell?_setCell_other _ _ _ _ (by simp)]; assumption)))
    (first
      | (go_at_call 38; refine (CT.out _).mono ?_; rintro e wa ⟨rfl, hba⟩; have IA := (by first | exact HI.out.drew.step hba | exact IB.step hba); have j0 : wa.cell? ⟨w.heap.size, 0, none⟩ = some (.string t) := IA.cell1 0; have j1 : wa.cell? ⟨w.heap.size, 1, none⟩ = some (.string p) := IA.cell1 1; have j2 : wa.cell? ⟨w.heap.size, 2, none⟩ = some (.int .i64 v) := IA.cell1 2; have jz := IA.cell2; have jf := IA.frozen2)
      | (go_at_call 38; refine (CP.out _).mono ?_; rintro e wb ⟨rfl, hbb⟩; have IB := (by first | exact HI.out.drew.step hbb | exact IA.step hbb); have i0 : wb.cell? ⟨w.heap.size, 0, none⟩ = some (.string t) := IB.cell1 0; have i1 : wb.cell? ⟨w.heap.size, 1, none⟩ = some (.string p) := IB.cell1 1; have i2 : wb.cell? ⟨w.heap.size, 2, none⟩ = some (.int .i64 v) := IB.cell1 2; have iz := IB.cell2; have iif := IB.frozen2)
      | fail)
  all_goals
    go_wp2
    exact bodyPost_ret (v := .agg #[.string t, .string p, .int .i64 v]) (by simp [results, Tryd.results20, go_sem, World.cell?_setCell_same, iz]) rfl ⟨rfl, kthree_below IB.bel hb2 _ _ _⟩

def kpCells (l : List Kp) : List Value := l.flatMap fun k => [.string k.topic, .string k.payload, .int .i64 k.ver]
theorem kpCells_append (a b : List Kp) : kpCells (a ++ b) = kpCells a ++ kpCells b := by simp [kpCells]
theorem kpCells_get (l : List Kp) (i : Nat) (h : i < l.length) : (kpCells l)[i * 3]? = some (.string l[i].topic) ∧ (kpCells l)[i * 3 + 1]? = some (.string l[i].payload) ∧ (kpCells l)[i * 3 + 2]? = some (.int .i64 l[i].ver) := by
  induction l generalizing i with
  | nil => simp at h
  | cons a l ih =>
    cases i with
    | zero => simp [kpCells]
    | succ i =>
      have e : kpCells (a :: l) = .string a.topic :: .string a.payload :: .int .i64 a.ver :: kpCells l := rfl
      have := ih i (by simpa using h)
      rw [e, show (i + 1) * 3 = i * 3 + 1 + 1 + 1 by omega, show i * 3 + 1 + 1 + 1 + 1 = (i * 3 + 1) + 1 + 1 + 1 by omega, show i * 3 + 1 + 1 + 1 + 2 = (i * 3 + 2) + 1 + 1 + 1 by omega]
      simpa using this
theorem kpCells_len (l : List Kp) : (kpCells l).length = l.length * 3 := by
  induction l with
  | nil => rfl
  | cons a l ih => have e : kpCells (a :: l) = .string a.topic :: .string a.payload :: .int .i64 a.ver :: kpCells l := rfl; rw [e]; simp [ih]; omega
theorem kpCells_one (l : List Kp) : ∀ u ∈ kpCells l, u.oneCell' = true := fun u hu => by
  simp only [kpCells, List.mem_flatMap] at hu
  obtain ⟨k, _, hk⟩ := hu
  simp only [List.mem_cons, List.not_mem_nil, or_false] at hk
  rcases hk with rfl | rfl | rfl <;> rfl
theorem kown_kept {w w' : World} {N : Nat} {e : TypeId} {k : Nat} {v : Value} {n : Nat} {xs : List Value} (h : w.ownsRow N e k v n xs) (hk : ∀ g, v.ownBlock = some g → w'.heap[g]? = w.heap[g]?) : w'.ownsRow N e k v n xs := by
  refine ⟨h.1, ?_⟩
  rcases h.2 with hn | ⟨g, cap, cur, rfl, hb, hg, rest⟩
  · exact .inl hn
  · exact .inr ⟨g, cap, cur, rfl, hb, by rw [hk g rfl]; exact hg, rest⟩
theorem kown_at {w : World} {N : Nat} {e : TypeId} {k : Nat} {v : Value} {n : Nat} {xs : List Value} (h : w.ownsRow N e k v n xs) {g : Nat} (hg : v.ownBlock = some g) : N ≤ g ∧ ∃ cur, w.heap[g]? = some (.cells cur e (0, 0)) := by
  rcases h.2 with ⟨rfl, _⟩ | ⟨g', cap, cur, rfl, hb, hg', _⟩
  · simp [Value.ownBlock] at hg
  · simp only [Value.ownBlock, Option.some.injEq] at hg
    subst hg
    exact ⟨hb, cur, hg'⟩
theorem kown_lt {w : World} {N : Nat} {e : TypeId} {k : Nat} {v : Value} {n : Nat} {xs : List Value} (h : w.ownsRow N e k v n xs) {g : Nat} (hg : v.ownBlock = some g) : g < w.heap.size := by
  obtain ⟨_, cur, hc⟩ := kown_at h hg
  exact (Array.getElem?_eq_some_iff.1 hc).1
theorem kown_below {w w' : World} {N : Nat} {e : TypeId} {k : Nat} {v : Value} {n : Nat} {xs : List Value} (h : w.ownsRow N e k v n xs) (hb : Below w.heap.size w w') : w'.ownsRow N e k v n xs := kown_kept h fun _ hg => hb.block _ (kown_lt h hg)
theorem kown_form {w : World} {B : Nat} {e : TypeId} {size : Nat} {v : Value} {n : Nat} {xs : List Value} (h : w.ownsRow B e size v n xs) : ∃ ao co, v = .slice ao n co := by
  rcases h.2 with ⟨rfl, rfl⟩ | ⟨g, cap, cur, rfl, _⟩
  · exact ⟨none, 0, rfl⟩
  · exact ⟨_, _, rfl⟩
theorem kown_mono {w : World} {N M : Nat} {e : TypeId} {k : Nat} {v : Value} {n : Nat} {xs : List Value} (h : w.ownsRow N e k v n xs) (hM : M ≤ N) : w.ownsRow M e k v n xs := by
  refine ⟨h.1, ?_⟩
  rcases h.2 with hn | ⟨g, cap, cur, rfl, hb, rest⟩
  · exact .inl hn
  · exact .inr ⟨g, cap, cur, rfl, by omega, rest⟩
theorem own_kps {w : World} {B : Nat} {ao : Option Addr} {n co : Nat} {l : List Kp} (h : w.ownsRow B 27 3 (.slice ao n co) n (kpCells l)) (hn : n = l.length) : KpsIn w ao l := by
  rcases h.2 with ⟨_, h0⟩ | ⟨g, cap, cur, hv, hb, hg, _, _, _, htake⟩
  · exact .inl (List.length_eq_zero_iff.1 (hn.symm.trans h0))
  · injection hv with ha _ _
    subst ha
    refine .inr ⟨g, 0, rfl, (Array.getElem?_eq_some_iff.1 hg).1, fun i hi => ?_⟩
    have hh := kpCells_get l i hi
    rw [← htake, List.getElem?_take, List.getElem?_take, List.getElem?_take, if_pos (by omega), if_pos (by omega), if_pos (by omega)] at hh
    rw [Nat.zero_add, Lib.cell_of_heap hg, Lib.cell_of_heap hg, Lib.cell_of_heap hg]
    simpa using hh

/-- a row of its own comes -/
def KRow (w : World) (L : List Kp) (e : Ending) (w' : World) : Prop := ∃ v, e = .returned v ∧ w'.ownsRow w.heap.size 27 3 v L.length (kpCells L) ∧ Below w.heap.size w w'

theorem filter_snoc (f : Kp → Bool) (l : List Kp) (k : Nat) (h : k < l.length) : (l.take (k + 1)).filter f = (l.take k).filter f ++ (if f l[k] then [l[k]] else []) := by
  rw [List.take_succ_eq_append_getElem h, List.filter_append]
  cases e : f l[k] <;> simp [e]

set_option maxHeartbeats 4000000 in
set_option maxRecDepth 100000 in
theorem those_lt (c : Nat) (f : Kp → Bool) (l : List Kp) (ao : Option Addr) (co : Nat) (w : World) (hl : KpsIn w ao l) (hn : l.length ≤ 16)
    (hs : ∀ k ∈ l, k.topic.size ≤ 281474976710656 ∧ k.payload.size ≤ 281474976710656)
    (hC : ∀ k W, Below w.heap.size w W → Calls Tryd.prog 19 #[kpV k, .pointer (some ⟨c, 0, none⟩)] W fun e w' => e = .returned (.bool (f k)) ∧ Below W.heap.size W w') :
    Calls Tryd.prog 18 #[.slice ao l.length co, .func (.func 19) #[] #[.pointer (some ⟨c, 0, none⟩)]] w (KRow w (l.filter f)) := by
  obtain ⟨i0, hi, hz0, hz1, hz2⟩ := info_parts (show (Tryd.prog.info? 27).map (fun i => (i.zero, i.size, i.bytes)) = some (some (.agg #[.string ⟨#[]⟩, .string ⟨#[]⟩, .int .i64 0]), 3, 40) by kernel_rfl)
  generalize hR : l.filter f = R
  have HR0 := hide hR
  have HL := hide hl
  have HS := hide hs
  have HC := hide hC
  clear hR hl hs hC
  go_enter Tryd.func18, Tryd.ntmps18
  go_wp2
  go_loopw [5, 10] (fun a i wr => ∃ (k : Nat) (aa : Option Addr) (ca : Nat), k ≤ l.length ∧ i = .int .i64 k ∧ a = .slice aa ((l.take k).filter f).length ca ∧ Hid (wr.ownsRow w.heap.size 27 3 (.slice aa ((l.take k).filter f).length ca) ((l.take k).filter f).length (kpCells ((l.take k).filter f)) ∧ Below w.heap.size w wr)) (fun _ i _ => l.length - (intOf i).toNat)
  case atStart => exact ⟨0, none, 0, by omega, rfl, rfl, World.ownsRow_nil _ _ _ _, Below.refl _ _⟩
  case round =>
    obtain ⟨k, aa, ca, hk, rfl, rfl, HR⟩ := hrel
    have hsz := HR.out.2.size
    by_cases hlt : k < l.length
    · obtain ⟨b, o, rfl, hb, hcell⟩ := kps_here HL.out hlt
      have hk1 : wr.cell? ⟨b, o + k * 3, none⟩ = some (.string l[k].topic) := by rw [HR.out.2.cell (p := ⟨b, _, none⟩) hb]; exact (hcell k hlt).1
      have hk2 : wr.cell? ⟨b, o + k * 3 + 1, none⟩ = some (.string l[k].payload) := by rw [HR.out.2.cell (p := ⟨b, _, none⟩) hb]; exact (hcell k hlt).2.1
      have hk3 : wr.cell? ⟨b, o + k * 3 + 2, none⟩ = some (.int .i64 l[k].ver) := by rw [HR.out.2.cell (p := ⟨b, _, none⟩) hb]; exact (hcell k hlt).2.2
      have HB := hide (HR.out.2.alloc hsz (.cells #[.string l[k].topic, .string l[k].payload, .int .i64 l[k].ver] 27))
      have C := hide (HC.out l[k])
      have CK := hide (fun W => clone_kp l[k] W (HS.out _ (List.getElem_mem _)).1 (HS.out _ (List.getElem_mem _)).2)
      have HSN := hide (filter_snoc f l k hlt)
      have hle : ((l.take k).filter f).length ≤ 16 := Nat.le_trans (List.length_filter_le _ _) (by rw [List.length_take]; omega)
      clear hcell HL HS HC
      generalize hkk : l[k] = x at *
      clear hkk
      generalize (l.take k).filter f = X at *
      generalize f x = Y at *
      obtain ⟨t, p, v⟩ := x
      simp only [kpV] at hk1 hk2 hk3 HB C CK HSN
      have d0 := kp_cells wr (.string t) (.string p) (.int .i64 v)
      have hz : wr.heap.size < (wr.alloc (.cells #[.string t, .string p, .int .i64 v] 27)).heap.size := by simp
      have HO0 : Hid ((wr.alloc (.cells #[.string t, .string p, .int .i64 v] 27)).ownsRow w.heap.size 27 3 (.slice aa X.length ca) X.length (kpCells X)) := HR.out.1.alloc _
      go_wp2_with fail
      refine (C.out _ HB.out).mono ?_
      rintro e w1 ⟨rfl, hb1⟩
      have HB1 := hide (HB.out.trans (hb1.mono HB.out.size))
      have d1 : ∀ o, w1.cell? ⟨wr.heap.size, o, none⟩ = (#[.string t, .string p, .int .i64 v] : Array Value)[o]? := fun o => (hb1.cell (p := ⟨wr.heap.size, o, none⟩) hz).trans (d0 o)
      have HO1 : Hid (w1.ownsRow w.heap.size 27 3 (.slice aa X.length ca) X.length (kpCells X)) := kown_below HO0.out hb1
      clear hb1 d0 hz HB C HO0
      cases Y with
      | false =>
        have HQ : Hid ((l.take (k + 1)).filter f = X) := by show _ = _; have := HSN.out; simpa using this
        go_wp2
        go_round
        case rel => exact ⟨k + 1, aa, ca, by omega, by go_num, by rw [HQ.out], by rw [HQ.out]; exact HO1.out, HB1.out⟩
        case measure => simp [intOf]; omega
      | true =>
        have HQ : Hid ((l.take (k + 1)).filter f = X ++ [⟨t, p, v⟩]) := by show _ = _; have := HSN.out; simpa using this
        go_wp2_with fail
        refine (CK.out _).mono ?_
        rintro e w2 ⟨rfl, hb2⟩
        have HB2 := hide (HB1.out.trans (hb2.mono HB1.out.size))
        have HO2 : Hid (w2.ownsRow w.heap.size 27 3 (.slice aa X.length ca) X.length (kpCells X)) := kown_below HO1.out hb2
        have hs2 := HB2.out.size
        clear hb2
        go_wp2_with (at_builtin; refine wpList_append_lies _ rfl _ _ 22 rfl w.heap.size 27 i0 _ 3 40 Tryd.underlying22 hi hz0 hz1 hz2 rfl (by decide) _ _ _ rfl (HO2.out.alloc (.cells #[.string t, .string p, .int .i64 v] 27)) ⟨w2.heap.size, 0, none⟩ 1 1 [.string t, .string p, .int .i64 v] rfl rfl (World.news_of_block (cs := #[.string t, .string p, .int .i64 v]) (t := 27) (fr := (0, 0)) (Go.heap_alloc_new w2 _)) (by simp [Value.oneCell']) (by decide) (by unfold maxLen; omega) (by omega) (by simp; omega) _ rfl ?_)
        intro g cap w3 hown hgrow hat hg
        have HO3 : Hid (w3.ownsRow w.heap.size 27 3 (.slice (some ⟨g, 0, none⟩) (X.length + 1) cap) (X.length + 1) (kpCells (X ++ [⟨t, p, v⟩]))) := by rw [kpCells_append]; exact hown
        have HB3 : Hid (Below w.heap.size w w3) := Below.grown (HB2.out.alloc hs2 _) hgrow (by simp; omega) (fun g' hg' => (kown_at HO2.out hg').1)
        clear hown hgrow hat hg
        go_wp2
        go_round
        case rel => exact ⟨k + 1, some ⟨g, 0, none⟩, cap, by omega, by go_num, by rw [HQ.out, List.length_append]; rfl, by rw [HQ.out, List.length_append]; exact HO3.out, HB3.out⟩
        case measure => simp [intOf]; omega
    · have hke : l.take k = l := List.take_of_length_le (by omega)
      rw [hke, HR0.out] at HR ⊢
      clear hke
      go_wp2
      go_ret
      exact ⟨_, rfl, HR.out.1, HR.out.2⟩

set_option maxHeartbeats 4000000 in
set_option maxRecDepth 100000 in
theorem those_gt (c : Nat) (f : Kp → Bool) (l : List Kp) (ao : Option Addr) (co : Nat) (w : World) (hl : KpsIn w ao l) (hn : l.length ≤ 16)
    (hs : ∀ k ∈ l, k.topic.size ≤ 281474976710656 ∧ k.payload.size ≤ 281474976710656)
    (hC : ∀ k W, Below w.heap.size w W → Calls Tryd.prog 22 #[kpV k, .pointer (some ⟨c, 0, none⟩)] W fun e w' => e = .returned (.bool (f k)) ∧ Below W.heap.size W w') :
    Calls Tryd.prog 18 #[.slice ao l.length co, .func (.func 22) #[] #[.pointer (some ⟨c, 0, none⟩)]] w (KRow w (l.filter f)) := by
  obtain ⟨i0, hi, hz0, hz1, hz2⟩ := info_parts (show (Tryd.prog.info? 27).map (fun i => (i.zero, i.size, i.bytes)) = some (some (.agg #[.string ⟨#[]⟩, .string ⟨#[]⟩, .int .i64 0]), 3, 40) by kernel_rfl)
  generalize hR : l.filter f = R
  have HR0 := hide hR
  have HL := hide hl
  have HS := hide hs
  have HC := hide hC
  clear hR hl hs hC
  go_enter Tryd.func18, Tryd.ntmps18
  go_wp2
  go_loopw [5, 10] (fun a i wr => ∃ (k : Nat) (aa : Option Addr) (ca : Nat), k ≤ l.length ∧ i = .int .i64 k ∧ a = .slice aa ((l.take k).filter f).length ca ∧ Hid (wr.ownsRow w.heap.size 27 3 (.slice aa ((l.take k).filter f).length ca) ((l.take k).filter f).length (kpCells ((l.take k).filter f)) ∧ Below w.heap.size w wr)) (fun _ i _ => l.length - (intOf i).toNat)
  case atStart => exact ⟨0, none, 0, by omega, rfl, rfl, World.ownsRow_nil _ _ _ _, Below.refl _ _⟩
  case round =>
    obtain ⟨k, aa, ca, hk, rfl, rfl, HR⟩ := hrel
    have hsz := HR.out.2.size
    by_cases hlt : k < l.length
    · obtain ⟨b, o, rfl, hb, hcell⟩ := kps_here HL.out hlt
      have hk1 : wr.cell? ⟨b, o + k * 3, none⟩ = some (.string l[k].topic) := by rw [HR.out.2.cell (p := ⟨b, _, none⟩) hb]; exact (hcell k hlt).1
      have hk2 : wr.cell? ⟨b, o + k * 3 + 1, none⟩ = some (.string l[k].payload) := by rw [HR.out.2.cell (p := ⟨b, _, none⟩) hb]; exact (hcell k hlt).2.1
      have hk3 : wr.cell? ⟨b, o + k * 3 + 2, none⟩ = some (.int .i64 l[k].ver) := by rw [HR.out.2.cell (p := ⟨b, _, none⟩) hb]; exact (hcell k hlt).2.2
      have HB := hide (HR.out.2.alloc hsz (.cells #[.string l[k].topic, .string l[k].payload, .int .i64 l[k].ver] 27))
      have C := hide (HC.out l[k])
      have CK := hide (fun W => clone_kp l[k] W (HS.out _ (List.getElem_mem _)).1 (HS.out _ (List.getElem_mem _)).2)
      have HSN := hide (filter_snoc f l k hlt)
      have hle : ((l.take k).filter f).length ≤ 16 := Nat.le_trans (List.length_filter_le _ _) (by rw [List.length_take]; omega)
      clear hcell HL HS HC
      generalize hkk : l[k] = x at *
      clear hkk
      generalize (l.take k).filter f = X at *
      generalize f x = Y at *
      obtain ⟨t, p, v⟩ := x
      simp only [kpV] at hk1 hk2 hk3 HB C CK HSN
      have d0 := kp_cells wr (.string t) (.string p) (.int .i64 v)
      have hz : wr.heap.size < (wr.alloc (.cells #[.string t, .string p, .int .i64 v] 27)).heap.size := by simp
      have HO0 : Hid ((wr.alloc (.cells #[.string t, .string p, .int .i64 v] 27)).ownsRow w.heap.size 27 3 (.slice aa X.length ca) X.length (kpCells X)) := HR.out.1.alloc _
      go_wp2_with fail
      refine (C.out _ HB.out).mono ?_
      rintro e w1 ⟨rfl, hb1⟩
      have HB1 := hide (HB.out.trans (hb1.mono HB.out.size))
      have d1 : ∀ o, w1.cell? ⟨wr.heap.size, o, none⟩ = (#[.string t, .string p, .int .i64 v] : Array Value)[o]? := fun o => (hb1.cell (p := ⟨wr.heap.size, o, none⟩) hz).trans (d0 o)
      have HO1 : Hid (w1.ownsRow w.heap.size 27 3 (.slice aa X.length ca) X.length (kpCells X)) := kown_below HO0.out hb1
      clear hb1 d0 hz HB C HO0
      cases Y with
      | false =>
        have HQ : Hid ((l.take (k + 1)).filter f = X) := by show _ = _; have := HSN.out; simpa using this
        go_wp2
        go_round
        case rel => exact ⟨k + 1, aa, ca, by omega, by go_num, by rw [HQ.out], by rw [HQ.out]; exact HO1.out, HB1.out⟩
        case measure => simp [intOf]; omega
      | true =>
        have HQ : Hid ((l.take (k + 1)).filter f = X ++ [⟨t, p, v⟩]) := by show _ = _; have := HSN.out; simpa using this
        go_wp2_with fail
        refine (CK.out _).mono ?_
        rintro e w2 ⟨rfl, hb2⟩
        have HB2 := hide (HB1.out.trans (hb2.mono HB1.out.size))
        have HO2 : Hid (w2.ownsRow w.heap.size 27 3 (.slice aa X.length ca) X.length (kpCells X)) := kown_below HO1.out hb2
        have hs2 := HB2.out.size
        clear hb2
        go_wp2_with (at_builtin; refine wpList_append_lies _ rfl _ _ 22 rfl w.heap.size 27 i0 _ 3 40 Tryd.underlying22 hi hz0 hz1 hz2 rfl (by decide) _ _ _ rfl (HO2.out.alloc (.cells #[.string t, .string p, .int .i64 v] 27)) ⟨w2.heap.size, 0, none⟩ 1 1 [.string t, .string p, .int .i64 v] rfl rfl (World.news_of_block (cs := #[.string t, .string p, .int .i64 v]) (t := 27) (fr := (0, 0)) (Go.heap_alloc_new w2 _)) (by simp [Value.oneCell']) (by decide) (by unfold maxLen; omega) (by omega) (by simp; omega) _ rfl ?_)
        intro g cap w3 hown hgrow hat hg
        have HO3 : Hid (w3.ownsRow w.heap.size 27 3 (.slice (some ⟨g, 0, none⟩) (X.length + 1) cap) (X.length + 1) (kpCells (X ++ [⟨t, p, v⟩]))) := by rw [kpCells_append]; exact hown
        have HB3 : Hid (Below w.heap.size w w3) := Below.grown (HB2.out.alloc hs2 _) hgrow (by simp; omega) (fun g' hg' => (kown_at HO2.out hg').1)
        clear hown hgrow hat hg
        go_wp2
        go_round
        case rel => exact ⟨k + 1, some ⟨g, 0, none⟩, cap, by omega, by go_num, by rw [HQ.out, List.length_append]; rfl, by rw [HQ.out, List.length_append]; exact HO3.out, HB3.out⟩
        case measure => simp [intOf]; omega
    · have hke : l.take k = l := List.take_of_length_le (by omega)
      rw [hke, HR0.out] at HR ⊢
      clear hke
      go_wp2
      go_ret
      exact ⟨_, rfl, HR.out.1, HR.out.2⟩

set_option maxHeartbeats 4000000 in
set_option maxRecDepth 100000 in
theorem those_by (c : Nat) (f : Kp → Bool) (l : List Kp) (ao : Option Addr) (co : Nat) (w : World) (hl : KpsIn w ao l) (hn : l.length ≤ 16)
    (hs : ∀ k ∈ l, k.topic.size ≤ 281474976710656 ∧ k.payload.size ≤ 281474976710656)
    (hC : ∀ k W, Below w.heap.size w W → Calls Tryd.prog 39 #[kpV k, .pointer (some ⟨c, 0, none⟩)] W fun e w' => e = .returned (.bool (f k)) ∧ Below W.heap.size W w') :
    Calls Tryd.prog 18 #[.slice ao l.length co, .func (.func 39) #[] #[.pointer (some ⟨c, 0, none⟩)]] w (KRow w (l.filter f)) := by
  obtain ⟨i0, hi, hz0, hz1, hz2⟩ := info_parts (show (Tryd.prog.info? 27).map (fun i => (i.zero, i.size, i.bytes)) = some (some (.agg #[.string ⟨#[]⟩, .string ⟨#[]⟩, .int .i64 0]), 3, 40) by kernel_rfl)
  generalize hR : l.filter f = R
  have HR0 := hide hR
  have HL := hide hl
  have HS := hide hs
  have HC := hide hC
  clear hR hl hs hC
  go_enter Tryd.func18, Tryd.ntmps18
  go_wp2
  go_loopw [5, 10] (fun a i wr => ∃ (k : Nat) (aa : Option Addr) (ca : Nat), k ≤ l.length ∧ i = .int .i64 k ∧ a = .slice aa ((l.take k).filter f).length ca ∧ Hid (wr.ownsRow w.heap.size 27 3 (.slice aa ((l.take k).filter f).length ca) ((l.take k).filter f).length (kpCells ((l.take k).filter f)) ∧ Below w.heap.size w wr)) (fun _ i _ => l.length - (intOf i).toNat)
  case atStart => exact ⟨0, none, 0, by omega, rfl, rfl, World.ownsRow_nil _ _ _ _, Below.refl _ _⟩
  case round =>
    obtain ⟨k, aa, ca, hk, rfl, rfl, HR⟩ := hrel
    have hsz := HR.out.2.size
    by_cases hlt : k < l.length
    · obtain ⟨b, o, rfl, hb, hcell⟩ := kps_here HL.out hlt
      have hk1 : wr.cell? ⟨b, o + k * 3, none⟩ = some (.string l[k].topic) := by rw [HR.out.2.cell (p := ⟨b, _, none⟩) hb]; exact (hcell k hlt).1
      have hk2 : wr.cell? ⟨b, o + k * 3 + 1, none⟩ = some (.string l[k].payload) := by rw [HR.out.2.cell (p := ⟨b, _, none⟩) hb]; exact (hcell k hlt).2.1
      have hk3 : wr.cell? ⟨b, o + k * 3 + 2, none⟩ = some (.int .i64 l[k].ver) := by rw [HR.out.2.cell (p := ⟨b, _, none⟩) hb]; exact (hcell k hlt).2.2
      have HB := hide (HR.out.2.alloc hsz (.cells #[.string l[k].topic, .string l[k].payload, .int .i64 l[k].ver] 27))
      have C := hide (HC.out l[k])
      have CK := hide (fun W => clone_kp l[k] W (HS.out _ (List.getElem_mem _)).1 (HS.out _ (List.getElem_mem _)).2)
      have HSN := hide (filter_snoc f l k hlt)
      have hle : ((l.take k).filter f).length ≤ 16 := Nat.le_trans (List.length_filter_le _ _) (by rw [List.length_take]; omega)
      clear hcell HL HS HC
      generalize hkk : l[k] = x at *
      clear hkk
      generalize (l.take k).filter f = X at *
      generalize f x = Y at *
      obtain ⟨t, p, v⟩ := x
      simp only [kpV] at hk1 hk2 hk3 HB C CK HSN
      have d0 := kp_cells wr (.string t) (.string p) (.int .i64 v)
      have hz : wr.heap.size < (wr.alloc (.cells #[.string t, .string p, .int .i64 v] 27)).heap.size := by simp
      have HO0 : Hid ((wr.alloc (.cells #[.string t, .string p, .int .i64 v] 27)).ownsRow w.heap.size 27 3 (.slice aa X.length ca) X.length (kpCells X)) := HR.out.1.alloc _
      go_wp2_with fail
      refine (C.out _ HB.out).mono ?_
      rintro e w1 ⟨rfl, hb1⟩
      have HB1 := hide (HB.out.trans (hb1.mono HB.out.size))
      have d1 : ∀ o, w1.cell? ⟨wr.heap.size, o, none⟩ = (#[.string t, .string p, .int .i64 v] : Array Value)[o]? := fun o => (hb1.cell (p := ⟨wr.heap.size, o, none⟩) hz).trans (d0 o)
      have HO1 : Hid (w1.ownsRow w.heap.size 27 3 (.slice aa X.length ca) X.length (kpCells X)) := kown_below HO0.out hb1
      clear hb1 d0 hz HB C HO0
      cases Y with
      | false =>
        have HQ : Hid ((l.take (k + 1)).filter f = X) := by show _ = _; have := HSN.out; simpa using this
        go_wp2
        go_round
        case rel => exact ⟨k + 1, aa, ca, by omega, by go_num, by rw [HQ.out], by rw [HQ.out]; exact HO1.out, HB1.out⟩
        case measure => simp [intOf]; omega
      | true =>
        have HQ : Hid ((l.take (k + 1)).filter f = X ++ [⟨t, p, v⟩]) := by show _ = _; have := HSN.out; simpa using this
        go_wp2_with fail
        refine (CK.out _).mono ?_
        rintro e w2 ⟨rfl, hb2⟩
        have HB2 := hide (HB1.out.trans (hb2.mono HB1.out.size))
        have HO2 : Hid (w2.ownsRow w.heap.size 27 3 (.slice aa X.length ca) X.length (kpCells X)) := kown_below HO1.out hb2
        have hs2 := HB2.out.size
        clear hb2
        go_wp2_with (at_builtin; refine wpList_append_lies _ rfl _ _ 22 rfl w.heap.size 27 i0 _ 3 40 Tryd.underlying22 hi hz0 hz1 hz2 rfl (by decide) _ _ _ rfl (HO2.out.alloc (.cells #[.string t, .string p, .int .i64 v] 27)) ⟨w2.heap.size, 0, none⟩ 1 1 [.string t, .string p, .int .i64 v] rfl rfl (World.news_of_block (cs := #[.string t, .string p, .int .i64 v]) (t := 27) (fr := (0, 0)) (Go.heap_alloc_new w2 _)) (by simp [Value.oneCell']) (by decide) (by unfold maxLen; omega) (by omega) (by simp; omega) _ rfl ?_)
        intro g cap w3 hown hgrow hat hg
        have HO3 : Hid (w3.ownsRow w.heap.size 27 3 (.slice (some ⟨g, 0, none⟩) (X.length + 1) cap) (X.length + 1) (kpCells (X ++ [⟨t, p, v⟩]))) := by rw [kpCells_append]; exact hown
        have HB3 : Hid (Below w.heap.size w w3) := Below.grown (HB2.out.alloc hs2 _) hgrow (by simp; omega) (fun g' hg' => (kown_at HO2.out hg').1)
        clear hown hgrow hat hg
        go_wp2
        go_round
        case rel => exact ⟨k + 1, some ⟨g, 0, none⟩, cap, by omega, by go_num, by rw [HQ.out, List.length_append]; rfl, by rw [HQ.out, List.length_append]; exact HO3.out, HB3.out⟩
        case measure => simp [intOf]; omega
    · have hke : l.take k = l := List.take_of_length_le (by omega)
      rw [hke, HR0.out] at HR ⊢
      clear hke
      go_wp2
      go_ret
      exact ⟨_, rfl, HR.out.1, HR.out.2⟩

set_option maxHeartbeats 4000000 in
set_option maxRecDepth 100000 in
theorem those_for (c : Nat) (f : Kp → Bool) (l : List Kp) (ao : Option Addr) (co : Nat) (w : World) (hl : KpsIn w ao l) (hn : l.length ≤ 16)
    (hs : ∀ k ∈ l, k.topic.size ≤ 281474976710656 ∧ k.payload.size ≤ 281474976710656)
    (hC : ∀ k W, Below w.heap.size w W → Calls Tryd.prog 25 #[kpV k, .pointer (some ⟨c, 0, none⟩)] W fun e w' => e = .returned (.bool (f k)) ∧ Below W.heap.size W w') :
    Calls Tryd.prog 18 #[.slice ao l.length co, .func (.func 25) #[] #[.pointer (some ⟨c, 0, none⟩)]] w (KRow w (l.filter f)) := by
  obtain ⟨i0, hi, hz0, hz1, hz2⟩ := info_parts (show (Tryd.prog.info? 27).map (fun i => (i.zero, i.size, i.bytes)) = some (some (.agg #[.string ⟨#[]⟩, .string ⟨#[]⟩, .int .i64 0]), 3, 40) by kernel_rfl)
  generalize hR : l.filter f = R
  have HR0 := hide hR
  have HL := hide hl
  have HS := hide hs
  have HC := hide hC
  clear hR hl hs hC
  go_enter Tryd.func18, Tryd.ntmps18
  go_wp2
  go_loopw [5, 10] (fun a i wr => ∃ (k : Nat) (aa : Option Addr) (ca : Nat), k ≤ l.length ∧ i = .int .i64 k ∧ a = .slice aa ((l.take k).filter f).length ca ∧ Hid (wr.ownsRow w.heap.size 27 3 (.slice aa ((l.take k).filter f).length ca) ((l.take k).filter f).length (kpCells ((l.take k).filter f)) ∧ Below w.heap.size w wr)) (fun _ i _ => l.length - (intOf i).toNat)
  case atStart => exact ⟨0, none, 0, by omega, rfl, rfl, World.ownsRow_nil _ _ _ _, Below.refl _ _⟩
  case round =>
    obtain ⟨k, aa, ca, hk, rfl, rfl, HR⟩ := hrel
    have hsz := HR.out.2.size
    by_cases hlt : k < l.length
    · obtain ⟨b, o, rfl, hb, hcell⟩ := kps_here HL.out hlt
      have hk1 : wr.cell? ⟨b, o + k * 3, none⟩ = some (.string l[k].topic) := by rw [HR.out.2.cell (p := ⟨b, _, none⟩) hb]; exact (hcell k hlt).1
      have hk2 : wr.cell? ⟨b, o + k * 3 + 1, none⟩ = some (.string l[k].payload) := by rw [HR.out.2.cell (p := ⟨b, _, none⟩) hb]; exact (hcell k hlt).2.1
      have hk3 : wr.cell? ⟨b, o + k * 3 + 2, none⟩ = some (.int .i64 l[k].ver) := by rw [HR.out.2.cell (p := ⟨b, _, none⟩) hb]; exact (hcell k hlt).2.2
      have HB := hide (HR.out.2.alloc hsz (.cells #[.string l[k].topic, .string l[k].payload, .int .i64 l[k].ver] 27))
      have C := hide (HC.out l[k])
      have CK := hide (fun W => clone_kp l[k] W (HS.out _ (List.getElem_mem _)).1 (HS.out _ (List.getElem_mem _)).2)
      have HSN := hide (filter_snoc f l k hlt)
      have hle : ((l.take k).filter f).length ≤ 16 := Nat.le_trans (List.length_filter_le _ _) (by rw [List.length_take]; omega)
      clear hcell HL HS HC
      generalize hkk : l[k] = x at *
      clear hkk
      generalize (l.take k).filter f = X at *
      generalize f x = Y at *
      obtain ⟨t, p, v⟩ := x
      simp only [kpV] at hk1 hk2 hk3 HB C CK HSN
      have d0 := kp_cells wr (.string t) (.string p) (.int .i64 v)
      have hz : wr.heap.size < (wr.alloc (.cells #[.string t, .string p, .int .i64 v] 27)).heap.size := by simp
      have HO0 : Hid ((wr.alloc (.cells #[.string t, .string p, .int .i64 v] 27)).ownsRow w.heap.size 27 3 (.slice aa X.length ca) X.length (kpCells X)) := HR.out.1.alloc _
      go_wp2_with fail
      refine (C.out _ HB.out).mono ?_
      rintro e w1 ⟨rfl, hb1⟩
      have HB1 := hide (HB.out.trans (hb1.mono HB.out.size))
      have d1 : ∀ o, w1.cell? ⟨wr.heap.size, o, none⟩ = (#[.string t, .string p, .int .i64 v] : Array Value)[o]? := fun o => (hb1.cell (p := ⟨wr.heap.size, o, none⟩) hz).trans (d0 o)
      have HO1 : Hid (w1.ownsRow w.heap.size 27 3 (.slice aa X.length ca) X.length (kpCells X)) := kown_below HO0.out hb1
      clear hb1 d0 hz HB C HO0
      cases Y with
      | false =>
        have HQ : Hid ((l.take (k + 1)).filter f = X) := by show _ = _; have := HSN.out; simpa using this
        go_wp2
        go_round
        case rel => exact ⟨k + 1, aa, ca, by omega, by go_num, by rw [HQ.out], by rw [HQ.out]; exact HO1.out, HB1.out⟩
        case measure => simp [intOf]; omega
      | true =>
        have HQ : Hid ((l.take (k + 1)).filter f = X ++ [⟨t, p, v⟩]) := by show _ = _; have := HSN.out; simpa using this
        go_wp2_with fail
        refine (CK.out _).mono ?_
        rintro e w2 ⟨rfl, hb2⟩
        have HB2 := hide (HB1.out.trans (hb2.mono HB1.out.size))
        have HO2 : Hid (w2.ownsRow w.heap.size 27 3 (.slice aa X.length ca) X.length (kpCells X)) := kown_below HO1.out hb2
        have hs2 := HB2.out.size
        clear hb2
        go_wp2_with (at_builtin; refine wpList_append_lies _ rfl _ _ 22 rfl w.heap.size 27 i0 _ 3 40 Tryd.underlying22 hi hz0 hz1 hz2 rfl (by decide) _ _ _ rfl (HO2.out.alloc (.cells #[.string t, .string p, .int .i64 v] 27)) ⟨w2.heap.size, 0, none⟩ 1 1 [.string t, .string p, .int .i64 v] rfl rfl (World.news_of_block (cs := #[.string t, .string p, .int .i64 v]) (t := 27) (fr := (0, 0)) (Go.heap_alloc_new w2 _)) (by simp [Value.oneCell']) (by decide) (by unfold maxLen; omega) (by omega) (by simp; omega) _ rfl ?_)
        intro g cap w3 hown hgrow hat hg
        have HO3 : Hid (w3.ownsRow w.heap.size 27 3 (.slice (some ⟨g, 0, none⟩) (X.length + 1) cap) (X.length + 1) (kpCells (X ++ [⟨t, p, v⟩]))) := by rw [kpCells_append]; exact hown
        have HB3 : Hid (Below w.heap.size w w3) := Below.grown (HB2.out.alloc hs2 _) hgrow (by simp; omega) (fun g' hg' => (kown_at HO2.out hg').1)
        clear hown hgrow hat hg
        go_wp2
        go_round
        case rel => exact ⟨k + 1, some ⟨g, 0, none⟩, cap, by omega, by go_num, by rw [HQ.out, List.length_append]; rfl, by rw [HQ.out, List.length_append]; exact HO3.out, HB3.out⟩
        case measure => simp [intOf]; omega
    · have hke : l.take k = l := List.take_of_length_le (by omega)
      rw [hke, HR0.out] at HR ⊢
      clear hke
      go_wp2
      go_ret
      exact ⟨_, rfl, HR.out.1, HR.out.2⟩

end Go.Proofs.YtcldjoklkbbbgadDoor
