/-
  session.cloneFlight, cloneAll, clone: what they answer.
-/
import Derived.Test.YtnhcecgmcmcioaaDoorSesChecked
import Derived.Deep.AppendLies
namespace Go.Proofs.YtnhcecgmcmcioaaDoor
open Go.RowKit Go.PlainAid

theorem fthree_below {w w' : World} {N b : Nat} (h : Below N w w') (hb : N ≤ b) (x y z : Value) : Below N w (((w'.setCell ⟨b, 0, none⟩ x).setCell ⟨b, 1, none⟩ y).setCell ⟨b, 2, none⟩ z) := ((h.setCell (p := ⟨b, 0, none⟩) hb x).setCell (p := ⟨b, 1, none⟩) hb y).setCell (p := ⟨b, 2, none⟩) hb z

set_option maxHeartbeats 2000000 in
set_option maxRecDepth 100000 in
theorem clone_fl (k : Fl) (w : World) (h1 : k.topic.size ≤ 281474976710656) (h2 : k.load.size ≤ 281474976710656) : Calls Tryd.prog 46 #[flV k] w fun e w' => e = .returned (flV k) ∧ Below w.heap.size w w' := by
  obtain ⟨v, t, p⟩ := k
  simp only [flV] at *
  have CT := hide (fun W => kclone_any t W h1)
  have CP := hide (fun W => kclone_any p W h2)
  clear h1 h2
  have HI : Hid (Cl w w.heap.size (w.heap.size + 1) (.cells #[.int .i64 v, .string t, .string p] 46 (0, 0)) (.cells #[.int .i64 0, .string ⟨#[]⟩, .string ⟨#[]⟩] 46 (0, 0)) ((w.alloc (.cells #[.int .i64 v, .string t, .string p] 46)).alloc (.cells #[.int .i64 0, .string ⟨#[]⟩, .string ⟨#[]⟩] 46))) := by
    refine ⟨?_, ?_, ((Below.refl w.heap.size w).alloc (Nat.le_refl _) _).alloc (by simp) _⟩
    · rw [Below.heap_alloc _ _ _ (by simp)]; exact Go.heap_alloc_new w _
    · have := Go.heap_alloc_new (w.alloc (.cells #[.int .i64 v, .string t, .string p] 46)) (.cells #[.int .i64 0, .string ⟨#[]⟩, .string ⟨#[]⟩] 46)
      simpa using this
  go_enter Tryd.func46, Tryd.ntmps46
  go_upto_region 1 with fail
  revert HI
  generalize (w.alloc (.cells #[.int .i64 v, .string t, .string p] 46)).alloc (.cells #[.int .i64 0, .string ⟨#[]⟩, .string ⟨#[]⟩] 46) = W
  intro HI
  have hb2 : w.heap.size ≤ w.heap.size + 1 := by omega
  generalize hc : w.heap.size + 1 = c2 at *
  have q0 : W.cell? ⟨w.heap.size, 0, none⟩ = some (.int .i64 v) := HI.out.cell1 0
  have q1 : W.cell? ⟨w.heap.size, 1, none⟩ = some (.string t) := HI.out.cell1 1
  have q2 : W.cell? ⟨w.heap.size, 2, none⟩ = some (.string p) := HI.out.cell1 2
  have z0 : ∀ o, W.cell? ⟨c2, o, none⟩ = (#[.int .i64 0, .string ⟨#[]⟩, .string ⟨#[]⟩] : Array Value)[o]? := HI.out.cell2
  have hne : w.heap.size ≠ c2 := by omega
  clear hc
  go_region_held3 (fun w' => w'.cell? ⟨w.heap.size, 0, none⟩ = some (.int .i64 v) ∧ w'.cell? ⟨w.heap.size, 1, none⟩ = some (.string t) ∧ w'.cell? ⟨w.heap.size, 2, none⟩ = some (.string p)) (first
      | go_keep
      | (go_split_ands; refine ⟨?_, ?_, ?_⟩ <;> (rw [World.cell?_setCell_other _ _ _ _ (by simp), World.cell?_setCell_other _ _ _ _ (by simp), World.cell?_setCell_other _ _ _ _ (by simp)]; assumption)))
    (first
      | (go_at_call 49; refine (CT.out _).mono ?_; rintro e wa ⟨rfl, hba⟩; have IA := (by first | exact HI.out.drew.step hba | exact IB.step hba); have j0 : wa.cell? ⟨w.heap.size, 0, none⟩ = some (.int .i64 v) := IA.cell1 0; have j1 : wa.cell? ⟨w.heap.size, 1, none⟩ = some (.string t) := IA.cell1 1; have j2 : wa.cell? ⟨w.heap.size, 2, none⟩ = some (.string p) := IA.cell1 2; have jz := IA.cell2; have jf := IA.frozen2)
      | (go_at_call 49; refine (CP.out _).mono ?_; rintro e wb ⟨rfl, hbb⟩; have IB := (by first | exact HI.out.drew.step hbb | exact IA.step hbb); have i0 : wb.cell? ⟨w.heap.size, 0, none⟩ = some (.int .i64 v) := IB.cell1 0; have i1 : wb.cell? ⟨w.heap.size, 1, none⟩ = some (.string t) := IB.cell1 1; have i2 : wb.cell? ⟨w.heap.size, 2, none⟩ = some (.string p) := IB.cell1 2; have iz := IB.cell2; have iif := IB.frozen2)
      | fail)
  all_goals
    go_wp2
    exact bodyPost_ret (v := .agg #[.int .i64 v, .string t, .string p]) (by simp [results, Tryd.results46, go_sem, World.cell?_setCell_same, iz]) rfl ⟨rfl, fthree_below IB.bel hb2 _ _ _⟩

def flCells (l : List Fl) : List Value := l.flatMap fun k => [.int .i64 k.id, .string k.topic, .string k.load]
theorem flCells_append (a b : List Fl) : flCells (a ++ b) = flCells a ++ flCells b := by simp [flCells]
theorem flCells_get (l : List Fl) (i : Nat) (h : i < l.length) : (flCells l)[i * 3]? = some (.int .i64 l[i].id) ∧ (flCells l)[i * 3 + 1]? = some (.string l[i].topic) ∧ (flCells l)[i * 3 + 2]? = some (.string l[i].load) := by
  induction l generalizing i with
  | nil => simp at h
  | cons a l ih =>
    cases i with
    | zero => simp [flCells]
    | succ i =>
      have e : flCells (a :: l) = .int .i64 a.id :: .string a.topic :: .string a.load :: flCells l := rfl
      have := ih i (by simpa using h)
      rw [e, show (i + 1) * 3 = i * 3 + 1 + 1 + 1 by omega, show i * 3 + 1 + 1 + 1 + 1 = (i * 3 + 1) + 1 + 1 + 1 by omega, show i * 3 + 1 + 1 + 1 + 2 = (i * 3 + 2) + 1 + 1 + 1 by omega]
      simpa using this
theorem own_fls {w : World} {B : Nat} {ao : Option Addr} {n co : Nat} {l : List Fl} (h : w.ownsRow B 46 3 (.slice ao n co) n (flCells l)) (hn : n = l.length) : FlsIn w ao l := by
  rcases h.2 with ⟨_, h0⟩ | ⟨g, cap, cur, hv, hb, hg, _, _, _, htake⟩
  · exact .inl (List.length_eq_zero_iff.1 (hn.symm.trans h0))
  · injection hv with ha _ _
    subst ha
    refine .inr ⟨g, 0, rfl, (Array.getElem?_eq_some_iff.1 hg).1, fun i hi => ?_⟩
    have hh := flCells_get l i hi
    rw [← htake, List.getElem?_take, List.getElem?_take, List.getElem?_take, if_pos (by omega), if_pos (by omega), if_pos (by omega)] at hh
    rw [Nat.zero_add, Lib.cell_of_heap hg, Lib.cell_of_heap hg, Lib.cell_of_heap hg]
    simpa using hh

section
variable {ops : Array Oper} {o : Oper} {rest : List Oper} {a : Act} {Q : Exit → Act → World → Prop} {W : World} {v : Value} {N : Nat}
/-- a flight more, in a plain region -/
theorem wpFl (hgd : o.guard = none) (x y : Operand) (ho : o.op = .call { callee := .builtin .append, args := #[x, y], argTypes := #[22, 22] }) (L : List Fl)
    (hx : a.eval x = v) (B : Nat) (hy : a.eval y = .slice (some ⟨B, 0, none⟩) 1 1) (hI : W.ownsRow N 46 3 v L.length (flCells L)) (hN : N ≤ W.heap.size) (f : Fl) (hB : W.heap[B]? = some (.cells #[.int .i64 f.id, .string f.topic, .string f.load] 46 (0, 0))) (hk : L.length ≤ 1048576)
    (h : ∀ g cap W', W'.ownsRow N 46 3 (.slice (some ⟨g, 0, none⟩) (L.length + 1) cap) (L ++ [f]).length (flCells (L ++ [f])) → W.grownBy W' v.ownBlock → wpList Tryd.prog ops Q rest (a.put o.dst (.slice (some ⟨g, 0, none⟩) (L.length + 1) cap)) W') :
    wpList Tryd.prog ops Q (o :: rest) a W := by
  obtain ⟨i0, hi, hz0, hz1, hz2⟩ := info_parts (show (Tryd.prog.info? 46).map (fun i => (i.zero, i.size, i.bytes)) = some (some (.agg #[.int .i64 0, .string ⟨#[]⟩, .string ⟨#[]⟩]), 3, 40) by kernel_rfl)
  refine wpList_append_lies W hgd x y 22 ho N 46 i0 _ 3 40 Tryd.underlying22 hi hz0 hz1 hz2 rfl (by decide) v L.length _ hx hI ⟨B, 0, none⟩ 1 1 [.int .i64 f.id, .string f.topic, .string f.load] hy rfl (World.news_of_block hB) (by simp [Value.oneCell']) (by decide) (by unfold maxLen; omega) (by omega) hN _ rfl ?_
  intro g cap W' hown hgrow hat hlt
  refine h g cap W' ?_ hgrow
  rw [List.length_append, flCells_append]
  exact hown
end

set_option maxHeartbeats 4000000 in
theorem cloneAll_any (l : List Fl) (ao : Option Addr) (co : Nat) (w : World) (hl : FlsIn w ao l) (hn : l.length ≤ 1048576) (hz : ∀ f ∈ l, f.topic.size ≤ 281474976710656 ∧ f.load.size ≤ 281474976710656) :
    Calls Tryd.prog 55 #[.slice ao l.length co] w fun e w' => ∃ ao' co', e = .returned (.slice ao' l.length co') ∧ w'.ownsRow w.heap.size 46 3 (.slice ao' l.length co') l.length (flCells l) ∧ Below w.heap.size w w' := by
  have HL := hide hl
  have HZ := hide hz
  clear hl hz
  go_enter Tryd.func55, Tryd.ntmps55
  go_wp2
  go_loopw [3, 8] (fun q i wr => ∃ (k : Nat) (a' : Option Addr) (c' : Nat), k ≤ l.length ∧ i = .int .i64 k ∧ q = .slice a' k c' ∧ Hid (wr.ownsRow w.heap.size 46 3 (.slice a' k c') (l.take k).length (flCells (l.take k)) ∧ Below w.heap.size w wr)) (fun _ i _ => l.length - (intOf i).toNat)
  case atStart => exact ⟨0, none, 0, by omega, rfl, rfl, World.ownsRow_nil _ _ _ _, Below.refl _ _⟩
  case round =>
    obtain ⟨k, a', c', hk, rfl, rfl, HR⟩ := hrel
    have hsz := HR.out.2.size
    have hlen : (l.take k).length = k := by rw [List.length_take]; omega
    by_cases hlt : k < l.length
    · obtain ⟨b, o, rfl, hb, hcell⟩ := fls_here HL.out hlt
      have hk1 : wr.cell? ⟨b, o + k * 3, none⟩ = some (.int .i64 l[k].id) := by rw [HR.out.2.cell (p := ⟨b, _, none⟩) hb]; exact (hcell k hlt).1
      have hk2 : wr.cell? ⟨b, o + k * 3 + 1, none⟩ = some (.string l[k].topic) := by rw [HR.out.2.cell (p := ⟨b, _, none⟩) hb]; exact (hcell k hlt).2.1
      have hk3 : wr.cell? ⟨b, o + k * 3 + 2, none⟩ = some (.string l[k].load) := by rw [HR.out.2.cell (p := ⟨b, _, none⟩) hb]; exact (hcell k hlt).2.2
      have HTK := hide (List.take_succ_eq_append_getElem hlt)
      have hzz := HZ.out l[k] (List.getElem_mem hlt)
      have C := hide (fun W => clone_fl l[k] W hzz.1 hzz.2)
      have HB := hide (HR.out.2.alloc hsz (.cells #[.int .i64 l[k].id, .string l[k].topic, .string l[k].load] 46))
      have HO := hide (HR.out.1.alloc (.cells #[.int .i64 l[k].id, .string l[k].topic, .string l[k].load] 46))
      clear hcell HL HZ hzz HR
      generalize l[k] = x at *
      obtain ⟨n, t, p⟩ := x
      simp only [flV] at hk1 hk2 hk3 C HB HO
      go_upto_region 5 with fail
      have d0 := fl_cells wr (.int .i64 n) (.string t) (.string p)
      revert HB HO d0
      generalize wr.alloc (.cells #[.int .i64 n, .string t, .string p] 46) = W
      intro HB HO d0
      go_wp2_with fail
      refine (C.out _).mono ?_
      rintro e w1 ⟨rfl, hb1⟩
      have HB1 := hide (HB.out.trans (hb1.mono HB.out.size))
      have HO1 := hide (kown_below HO.out hb1)
      have hs1 := HB1.out.size
      clear hb1 HB HO C d0
      go_wp2_with (at_builtin; refine wpFl (by rfl) _ _ (by rfl) (l.take k) (by rfl) _ (by rfl) (by rw [hlen]; have := HO1.out.alloc (.cells #[.int .i64 n, .string t, .string p] 46); rw [hlen] at this; exact this) (by simp; omega) ⟨n, t, p⟩ (by exact Go.heap_alloc_new _ _) (by omega) ?_; intro g cap wb hown hgrow)
      have HN : Hid (wb.ownsRow w.heap.size 46 3 (.slice (some ⟨g, 0, none⟩) (k + 1) cap) (l.take (k + 1)).length (flCells (l.take (k + 1)))) := by
        rw [HTK.out]
        rw [hlen] at hown
        exact hown
      have HBB : Hid (Below w.heap.size w wb) := Below.grown (HB1.out.alloc hs1 _) hgrow (by simp; omega) (fun c hc => (kown_at HO1.out (show (Value.slice a' k c').ownBlock = some c from hc)).1)
      clear hown hgrow HO1 HB1 HTK
      go_wp2
      go_round
      case rel => exact ⟨k + 1, some ⟨g, 0, none⟩, cap, by omega, by go_num, rfl, HN.out, HBB.out⟩
      case measure => simp [intOf]; omega
    · have hke : l.take k = l := List.take_of_length_le (by omega)
      have hkl : k = l.length := by omega
      rw [hke] at HR
      subst hkl
      clear hke hlen
      go_wp2
      go_ret
      exact ⟨a', c', rfl, HR.out.1, HR.out.2⟩
end Go.Proofs.YtnhcecgmcmcioaaDoor
namespace Go.Proofs.YtnhcecgmcmcioaaDoor
open Go.RowKit Go.PlainAid

def zeroSe : Se := ⟨⟨#[]⟩, false, false, [], [], 0⟩
theorem SAt.set0 {b : Nat} {s : Se} {va vb : Value} {w : World} (h : SAt b s va vb w) : SAt b s va vb (w.setCell ⟨b, 0, none⟩ (.string s.client)) := by
  unfold SAt at *; simp [World.setCell, Array.getElem?_modify, h]
theorem SAt.set3 {b : Nat} {s : Se} {va vb : Value} {w : World} (h : SAt b s va vb w) (v : Value) : SAt b s v vb (w.setCell ⟨b, 3, none⟩ v) := by
  unfold SAt at *; simp [World.setCell, Array.getElem?_modify, h]
theorem SAt.set4 {b : Nat} {s : Se} {va vb : Value} {w : World} (h : SAt b s va vb w) (v : Value) : SAt b s va v (w.setCell ⟨b, 4, none⟩ v) := by
  unfold SAt at *; simp [World.setCell, Array.getElem?_modify, h]
theorem SAt.other {b c : Nat} {s : Se} {va vb : Value} {w : World} (h : SAt b s va vb w) (hne : b ≠ c) (o : Nat) (v : Value) : SAt b s va vb (w.setCell ⟨c, o, none⟩ v) := by
  unfold SAt at *; rw [Below.heap_setCell _ _ _ _ hne]; exact h
theorem ssix_below {w w' : World} {N b : Nat} (h : Below N w w') (hb : N ≤ b) (x y z u p q : Value) : Below N w ((((((w'.setCell ⟨b, 0, none⟩ x).setCell ⟨b, 1, none⟩ y).setCell ⟨b, 2, none⟩ z).setCell ⟨b, 3, none⟩ u).setCell ⟨b, 4, none⟩ p).setCell ⟨b, 5, none⟩ q) :=
  (((((h.setCell (p := ⟨b, 0, none⟩) hb x).setCell (p := ⟨b, 1, none⟩) hb y).setCell (p := ⟨b, 2, none⟩) hb z).setCell (p := ⟨b, 3, none⟩) hb u).setCell (p := ⟨b, 4, none⟩) hb p).setCell (p := ⟨b, 5, none⟩) hb q
theorem fown_set {w : World} {N b o : Nat} {v x : Value} {n : Nat} {xs : List Value} (h : w.ownsRow N 46 3 v n xs) (hb : b < N) : (w.setCell ⟨b, o, none⟩ x).ownsRow N 46 3 v n xs :=
  kown_kept h fun g hg => Below.heap_setCell _ _ _ _ (by have := (kown_at h hg).1; show g ≠ b; omega)
theorem fown_six {w : World} {N b : Nat} {v : Value} {n : Nat} {xs : List Value} (h : w.ownsRow N 46 3 v n xs) (hb : b < N) (x y z u p q : Value) : ((((((w.setCell ⟨b, 0, none⟩ x).setCell ⟨b, 1, none⟩ y).setCell ⟨b, 2, none⟩ z).setCell ⟨b, 3, none⟩ u).setCell ⟨b, 4, none⟩ p).setCell ⟨b, 5, none⟩ q).ownsRow N 46 3 v n xs :=
  fown_set (fown_set (fown_set (fown_set (fown_set (fown_set h hb) hb) hb) hb) hb) hb

/-- two rows of flights of one's own, apart -/
structure Own2 (N : Nat) (s : Se) (va vb : Value) (M : Nat) (W : World) : Prop where
  fl : W.ownsRow N 46 3 va s.fl.length (flCells s.fl)
  lt : ∀ k, va.ownBlock = some k → k < M
  qu : W.ownsRow M 46 3 vb s.qu.length (flCells s.qu)
  le : N ≤ M

set_option maxHeartbeats 4000000 in
theorem clone_se (s : Se) (aa ab : Option Addr) (ca cb : Nat) (w : World) (hs : SeIn w s aa ab) (h1 : s.client.size ≤ 281474976710656) (hn : s.fl.length ≤ 1048576 ∧ s.qu.length ≤ 1048576) (hz : ∀ f, f ∈ s.fl ∨ f ∈ s.qu → f.topic.size ≤ 281474976710656 ∧ f.load.size ≤ 281474976710656) :
    Calls Tryd.prog 44 #[seV s aa ca ab cb] w fun e w' => ∃ a1 c1 a2 c2 M, e = .returned (seV s a1 c1 a2 c2) ∧ Own2 (w.heap.size + 1 + 1) s (.slice a1 s.fl.length c1) (.slice a2 s.qu.length c2) M w' ∧ Below w.heap.size w w' := by
  have CC := hide (fun W => kclone_any s.client W h1)
  have CF := hide (fun W (h : Below w.heap.size w W) => cloneAll_any s.fl aa ca W (hs.1.below h) hn.1 (fun f hf => hz f (.inl hf)))
  have CQ := hide (fun W (h : Below w.heap.size w W) => cloneAll_any s.qu ab cb W (hs.2.below h) hn.2 (fun f hf => hz f (.inr hf)))
  have D0 : Hid (SAt w.heap.size s (.slice aa s.fl.length ca) (.slice ab s.qu.length cb) ((w.alloc (.cells #[.string s.client, .bool s.on, .bool s.clean, .slice aa s.fl.length ca, .slice ab s.qu.length cb, .int .i64 s.next] 24)).alloc (.cells #[.string ⟨#[]⟩, .bool false, .bool false, .slice none 0 0, .slice none 0 0, .int .i64 0] 24))) := by
    show _ = _; rw [Below.heap_alloc _ _ _ (by simp)]; exact sat_new s _ _ w
  have Z0 : Hid (SAt (w.heap.size + 1) zeroSe (.slice none 0 0) (.slice none 0 0) ((w.alloc (.cells #[.string s.client, .bool s.on, .bool s.clean, .slice aa s.fl.length ca, .slice ab s.qu.length cb, .int .i64 s.next] 24)).alloc (.cells #[.string ⟨#[]⟩, .bool false, .bool false, .slice none 0 0, .slice none 0 0, .int .i64 0] 24))) := by
    have := sat_new zeroSe (.slice none 0 0) (.slice none 0 0) (w.alloc (.cells #[.string s.client, .bool s.on, .bool s.clean, .slice aa s.fl.length ca, .slice ab s.qu.length cb, .int .i64 s.next] 24))
    simp only [World.size_alloc] at this
    exact this
  have HB0 := hide (((Below.refl w.heap.size w).alloc (Nat.le_refl _) (.cells #[.string s.client, .bool s.on, .bool s.clean, .slice aa s.fl.length ca, .slice ab s.qu.length cb, .int .i64 s.next] 24)).alloc (by simp) (.cells #[.string ⟨#[]⟩, .bool false, .bool false, .slice none 0 0, .slice none 0 0, .int .i64 0] 24))
  clear hs h1 hn hz
  simp only [seV]
  go_enter Tryd.func44, Tryd.ntmps44
  go_upto_region 1 with fail
  revert D0 Z0 HB0
  generalize (w.alloc (.cells #[.string s.client, .bool s.on, .bool s.clean, .slice aa s.fl.length ca, .slice ab s.qu.length cb, .int .i64 s.next] 24)).alloc (.cells #[.string ⟨#[]⟩, .bool false, .bool false, .slice none 0 0, .slice none 0 0, .int .i64 0] 24) = W0
  intro D0 Z0 HB0
  have x1 := D0.out.cell
  go_wp2_with fail
  refine (CC.out _).mono ?_
  rintro e w1 ⟨rfl, hb⟩
  have D1 := hide (D0.out.after hb)
  have Z1 := hide (Z0.out.after hb)
  have HB1 := hide (below_step HB0.out hb)
  clear hb x1 D0 Z0 HB0
  have x1 := D1.out.cell
  have x2 := D1.out.frozen
  go_upto_region 2 with fail
  have D2 : Hid (SAt w.heap.size s (.slice aa s.fl.length ca) (.slice ab s.qu.length cb) (w1.setCell ⟨w.heap.size, 0, none⟩ (.string s.client))) := D1.out.set0
  have Z2 : Hid (SAt (w.heap.size + 1) zeroSe (.slice none 0 0) (.slice none 0 0) (w1.setCell ⟨w.heap.size, 0, none⟩ (.string s.client))) := Z1.out.other (by omega) _ _
  have HB2 : Hid (Below w.heap.size w (w1.setCell ⟨w.heap.size, 0, none⟩ (.string s.client))) := HB1.out.setCell (Nat.le_refl _) _
  revert D2 Z2 HB2
  generalize w1.setCell ⟨w.heap.size, 0, none⟩ (.string s.client) = W2
  intro D2 Z2 HB2
  clear x1 x2 D1 Z1 HB1 CC
  have x1 := D2.out.cell
  go_wp2_with fail
  refine (CF.out _ HB2.out).mono ?_
  rintro e w3 ⟨a1, c1, rfl, ho, hb⟩
  have hz2 := Z2.out.lt
  have D3 := hide (D2.out.after hb)
  have Z3 := hide (Z2.out.after hb)
  have HB3 := hide (below_step HB2.out hb)
  have HO3 := hide (kown_mono ho (show w.heap.size + 1 + 1 ≤ W2.heap.size by omega))
  clear hb ho x1 D2 Z2 HB2 CF
  have x1 := D3.out.cell
  have x2 := D3.out.frozen
  go_upto_region 3 with fail
  have D4 : Hid (SAt w.heap.size s (.slice a1 s.fl.length c1) (.slice ab s.qu.length cb) (w3.setCell ⟨w.heap.size, 3, none⟩ (.slice a1 s.fl.length c1))) := D3.out.set3 _
  have Z4 : Hid (SAt (w.heap.size + 1) zeroSe (.slice none 0 0) (.slice none 0 0) (w3.setCell ⟨w.heap.size, 3, none⟩ (.slice a1 s.fl.length c1))) := Z3.out.other (by omega) _ _
  have HB4 : Hid (Below w.heap.size w (w3.setCell ⟨w.heap.size, 3, none⟩ (.slice a1 s.fl.length c1))) := HB3.out.setCell (Nat.le_refl _) _
  have HO4 : Hid ((w3.setCell ⟨w.heap.size, 3, none⟩ (.slice a1 s.fl.length c1)).ownsRow (w.heap.size + 1 + 1) 46 3 (.slice a1 s.fl.length c1) s.fl.length (flCells s.fl)) := fown_set HO3.out (by omega)
  revert D4 Z4 HB4 HO4
  generalize w3.setCell ⟨w.heap.size, 3, none⟩ (.slice a1 s.fl.length c1) = W4
  intro D4 Z4 HB4 HO4
  clear x1 x2 D3 Z3 HB3 HO3
  have x1 := D4.out.cell
  go_wp2_with fail
  refine (CQ.out _ HB4.out).mono ?_
  rintro e w5 ⟨a2, c2, rfl, ho, hb⟩
  have hz4 := Z4.out.lt
  have D5 := hide (D4.out.after hb)
  have Z5 := hide (Z4.out.after hb)
  have HB5 := hide (below_step HB4.out hb)
  have HW5 : Hid (Own2 (w.heap.size + 1 + 1) s (.slice a1 s.fl.length c1) (.slice a2 s.qu.length c2) W4.heap.size w5) := ⟨kown_below HO4.out hb, fun k hk => kown_lt HO4.out hk, ho, by omega⟩
  clear hb ho x1 D4 Z4 HB4 HO4 CQ
  generalize W4.heap.size = M at *
  have x1 := D5.out.cell
  have x2 := D5.out.frozen
  go_upto_region 4 with fail
  have D6 : Hid (SAt w.heap.size s (.slice a1 s.fl.length c1) (.slice a2 s.qu.length c2) (w5.setCell ⟨w.heap.size, 4, none⟩ (.slice a2 s.qu.length c2))) := D5.out.set4 _
  have Z6 : Hid (SAt (w.heap.size + 1) zeroSe (.slice none 0 0) (.slice none 0 0) (w5.setCell ⟨w.heap.size, 4, none⟩ (.slice a2 s.qu.length c2))) := Z5.out.other (by omega) _ _
  have HB6 : Hid (Below w.heap.size w (w5.setCell ⟨w.heap.size, 4, none⟩ (.slice a2 s.qu.length c2))) := HB5.out.setCell (Nat.le_refl _) _
  have HW6 : Hid (Own2 (w.heap.size + 1 + 1) s (.slice a1 s.fl.length c1) (.slice a2 s.qu.length c2) M (w5.setCell ⟨w.heap.size, 4, none⟩ (.slice a2 s.qu.length c2))) := ⟨fown_set HW5.out.fl (by omega), HW5.out.lt, fown_set HW5.out.qu (by have := HW5.out.le; omega), HW5.out.le⟩
  revert D6 Z6 HB6 HW6
  generalize w5.setCell ⟨w.heap.size, 4, none⟩ (.slice a2 s.qu.length c2) = W6
  intro D6 Z6 HB6 HW6
  clear x1 x2 D5 Z5 HB5 HW5
  have x1 := D6.out.cell
  have z1 := Z6.out.cell
  have z2 := Z6.out.frozen
  simp only [zeroSe] at z1
  go_wp2
  exact bodyPost_ret (v := seV s a1 c1 a2 c2) (by simp [results, Tryd.results44, go_sem, seV, World.cell?_setCell_same, z1]) rfl ⟨a1, c1, a2, c2, M, rfl, ⟨fown_six HW6.out.fl (by omega) _ _ _ _ _ _, HW6.out.lt, fown_six HW6.out.qu (by have := HW6.out.le; omega) _ _ _ _ _ _, HW6.out.le⟩, ssix_below HB6.out (by omega) _ _ _ _ _ _⟩
end Go.Proofs.YtnhcecgmcmcioaaDoor
