/-
  slices.DeleteFunc of flights by their Id: what it answers and leaves.
-/
import Derived.Test.YtnhcecgmcmcioaaDoorSesClone
import Derived.Test.YtnhcecgmcmcioaaDoorRowPut
namespace Go.Proofs.YtnhcecgmcmcioaaDoor
open Go.RowKit Go.PlainAid

theorem lit_del (f : Fl) (c : Nat) (id : Int) (w : World) (h : w.cell? ⟨c, 0, none⟩ = some (.int .i64 id)) (hc : c < w.heap.size) : Calls Tryd.prog 26 #[flV f, .pointer (some ⟨c, 0, none⟩)] w fun e w' => e = .returned (.bool (isI id f)) ∧ Below w.heap.size w w' := by
  obtain ⟨n, t, p⟩ := f
  have hne : c ≠ w.heap.size := by omega
  have q0 := (World.cell?_alloc_old w (.cells #[.int .i64 n, .string t, .string p] 46) ⟨c, 0, none⟩ (by show c ≠ _; exact hne)).trans h
  simp only [flV, isI]
  clear hc
  go_enter Tryd.func26, Tryd.ntmps26
  go_wp2
  go_ret
  exact ⟨rfl, (Below.refl _ _).alloc (Nat.le_refl _) _⟩

set_option maxHeartbeats 2000000 in
theorem dindex_any (l : List Fl) (ao : Option Addr) (co c : Nat) (id : Int) (w : World) (hl : FlsIn w ao l) (hn : l.length ≤ 1152921504606846976) (hA : w.cell? ⟨c, 0, none⟩ = some (.int .i64 id)) (hc : c < w.heap.size) :
    Calls Tryd.prog 50 #[.slice ao l.length co, .func (.func 26) #[] #[.pointer (some ⟨c, 0, none⟩)]] w fun e w' => e = .returned (.int .i64 (idxF id 0 l)) ∧ Below w.heap.size w w' := by
  generalize hE : idxF id 0 l = E
  have HE := hide hE
  have HL := hide hl
  have CL : Hid (∀ k W, Below w.heap.size w W → Calls Tryd.prog 26 #[flV k, .pointer (some ⟨c, 0, none⟩)] W fun e w' => e = .returned (.bool (isI id k)) ∧ Below W.heap.size W w') := fun k W h => lit_del k c id W ((h.cell (p := ⟨c, 0, none⟩) hc).trans hA) (Nat.lt_of_lt_of_le hc h.size)
  clear hE hl hA hc
  go_enter Tryd.func50, Tryd.ntmps50
  go_wp2
  go_loopw [8] (fun i wr => ∃ k : Nat, k ≤ l.length ∧ i = .int .i64 k ∧ Hid (idxF id k (l.drop k) = E ∧ Below w.heap.size w wr)) (fun i _ => l.length - (intOf i).toNat)
  case atStart => exact ⟨0, by omega, rfl, HE.out, Below.refl _ _⟩
  case round =>
    obtain ⟨k, hk, rfl, HR⟩ := hrel
    have hsz := HR.out.2.size
    by_cases hlt : k < l.length
    · obtain ⟨b, o, rfl, hb, hcell⟩ := fls_here HL.out hlt
      have hk1 : wr.cell? ⟨b, o + k * 3, none⟩ = some (.int .i64 l[k].id) := by rw [HR.out.2.cell (p := ⟨b, _, none⟩) hb]; exact (hcell k hlt).1
      have hk2 : wr.cell? ⟨b, o + k * 3 + 1, none⟩ = some (.string l[k].topic) := by rw [HR.out.2.cell (p := ⟨b, _, none⟩) hb]; exact (hcell k hlt).2.1
      have hk3 : wr.cell? ⟨b, o + k * 3 + 2, none⟩ = some (.string l[k].load) := by rw [HR.out.2.cell (p := ⟨b, _, none⟩) hb]; exact (hcell k hlt).2.2
      have HS : Hid (_ = E) := (idxF_step id l k hlt).symm.trans HR.out.1
      clear hcell HL HE
      have C := hide (CL.out l[k])
      clear CL
      generalize l[k] = x at *
      generalize hB : isI id x = B at *
      clear hB
      obtain ⟨xp, xt, xn⟩ := x
      simp only [flV] at hk1 hk2 hk3 C
      cases B with
      | false =>
        have HQ : Hid (idxF id (k + 1) (l.drop (k + 1)) = E) := by have := HS.out; rwa [if_neg (by simp)] at this
        go_wp2_with fail
        refine (C.out _ HR.out.2).mono ?_
        rintro e w1 ⟨rfl, hb1⟩
        have HB1 := hide (HR.out.2.trans (hb1.mono hsz))
        clear hb1
        go_wp2
        go_round
        case rel => exact ⟨k + 1, by omega, by go_num, HQ.out, HB1.out⟩
        case measure => simp [intOf]; omega
      | true =>
        have HQ : Hid (E = k) := by have := HS.out; rw [if_pos rfl] at this; exact this.symm
        go_wp2_with fail
        refine (C.out _ HR.out.2).mono ?_
        rintro e w1 ⟨rfl, hb1⟩
        have HB1 := hide (HR.out.2.trans (hb1.mono hsz))
        clear hb1
        go_wp2
        go_ret
        exact ⟨by rw [HQ.out]; rfl, HB1.out⟩
    · have hke : l.drop k = [] := List.drop_eq_nil_of_le (by omega)
      have HQ : Hid (E = -1) := by have := HR.out.1; rw [hke, idxF] at this; exact this.symm
      clear hke
      go_wp2
      go_ret
      exact ⟨by rw [HQ.out]; rfl, HR.out.2⟩

/-- those of another Id -/
def offF (id : Int) (l : List Fl) : List Fl := l.filter fun f => !isI id f
theorem offF_snoc (id : Int) (l : List Fl) (k : Nat) (h : k < l.length) : offF id (l.take (k + 1)) = offF id (l.take k) ++ (if isI id l[k] = true then [] else [l[k]]) := by
  unfold offF
  rw [List.take_succ_eq_append_getElem h, List.filter_append]
  cases e : isI id l[k] <;> simp [e]
theorem idxF_spec (id : Int) : ∀ (l : List Fl) (i : Nat), (idxF id i l = -1 ∧ offF id l = l) ∨ ∃ k, ∃ h : k < l.length, idxF id i l = ((i + k : Nat) : Int) ∧ isI id l[k] = true ∧ offF id (l.take k) = l.take k
  | [], _ => .inl ⟨rfl, rfl⟩
  | b :: l, i => by
    rw [idxF]
    cases h : isI id b with
    | true => exact .inr ⟨0, by simp, by simp, by simpa using h, by simp [offF]⟩
    | false =>
      rw [if_neg (by simp)]
      rcases idxF_spec id l (i + 1) with ⟨e, ha⟩ | ⟨k, hk, e, ht, ha⟩
      · exact .inl ⟨e, by unfold offF at *; simp [h, ha]⟩
      · exact .inr ⟨k + 1, by simpa using hk, by rw [e]; congr 1; omega, by simpa using ht, by unfold offF at *; simp [h, ha]⟩
theorem flCells_set : ∀ (l : List Fl) (i : Nat) (f : Fl), (((flCells l).set (i * 3) (.int .i64 f.id)).set (i * 3 + 1) (.string f.topic)).set (i * 3 + 2) (.string f.load) = flCells (l.set i f)
  | [], _, _ => by simp [flCells]
  | a :: l, 0, f => by simp [flCells]
  | a :: l, i + 1, f => by
    have e : ∀ x : List Fl, flCells (a :: x) = .int .i64 a.id :: .string a.topic :: .string a.load :: flCells x := fun x => rfl
    rw [List.set_cons_succ, e, e, ← flCells_set l i f, show (i + 1) * 3 = i * 3 + 1 + 1 + 1 by omega, show i * 3 + 1 + 1 + 1 + 1 = (i * 3 + 1) + 1 + 1 + 1 by omega, show i * 3 + 1 + 1 + 1 + 2 = (i * 3 + 2) + 1 + 1 + 1 by omega]
    simp only [List.set_cons_succ]
theorem flCells_len (l : List Fl) : (flCells l).length = l.length * 3 := by
  induction l with
  | nil => rfl
  | cons a l ih => have e : flCells (a :: l) = .int .i64 a.id :: .string a.topic :: .string a.load :: flCells l := rfl; rw [e]; simp [ih]; omega
theorem flCells_take : ∀ (l : List Fl) (i : Nat), (flCells l).take (i * 3) = flCells (l.take i)
  | [], i => by simp [flCells]
  | a :: l, 0 => by simp [flCells]
  | a :: l, i + 1 => by
    have e : ∀ x : List Fl, flCells (a :: x) = .int .i64 a.id :: .string a.topic :: .string a.load :: flCells x := fun x => rfl
    rw [List.take_succ_cons, e, e, ← flCells_take l i, show (i + 1) * 3 = i * 3 + 1 + 1 + 1 by omega]
    simp only [List.take_succ_cons]

/-- while a row of flights is gone through: a of them are left of the first b -/
structure Dl (N g ca c : Nat) (id : Int) (l : List Fl) (a b : Nat) (m : List Fl) (w W : World) : Prop where
  row : W.ownsRow N 46 3 (.slice (some ⟨g, 0, none⟩) l.length ca) l.length (flCells m)
  len : m.length = l.length
  lt : a < b
  le : b ≤ l.length
  front : m.take a = offF id (l.take b)
  back : m.drop b = l.drop b
  box : W.heap[c]? = some (.cells #[.int .i64 id] 3 (0, 0))
  grown : w.grownBy W (some g)
section
variable {N g ca c : Nat} {id : Int} {l : List Fl} {a b : Nat} {m : List Fl} {w W W' : World}
theorem Dl.step (h : Dl N g ca c id l a b m w W) (hb : Below W.heap.size W W') : Dl N g ca c id l a b m w W' :=
  ⟨kown_below h.row hb, h.len, h.lt, h.le, h.front, h.back, (hb.block _ (Array.getElem?_eq_some_iff.1 h.box).1).trans h.box, grownBy_trans h.grown (grownBy_below hb _)⟩
theorem Dl.here (h : Dl N g ca c id l a b m w W) (hlt : b < l.length) : W.cell? ⟨g, b * 3, none⟩ = some (.int .i64 l[b].id) ∧ W.cell? ⟨g, b * 3 + 1, none⟩ = some (.string l[b].topic) ∧ W.cell? ⟨g, b * 3 + 2, none⟩ = some (.string l[b].load) := by
  obtain ⟨k1, _, _⟩ := kown_there h.row
  have hmb : b < m.length := by rw [h.len]; exact hlt
  have e : m[b] = l[b] := by
    have := h.back
    rw [List.drop_eq_getElem_cons hmb, List.drop_eq_getElem_cons hlt] at this
    exact (List.cons.inj this).1
  have hg := flCells_get m b hmb
  rw [e] at hg
  rw [k1 _ (by omega), k1 _ (by omega), k1 _ (by omega)]
  exact hg
theorem Dl.skip (h : Dl N g ca c id l a b m w W) (hlt : b < l.length) (hi : isI id l[b] = true) : Dl N g ca c id l a (b + 1) m w W := by
  refine ⟨h.row, h.len, by have := h.lt; omega, hlt, ?_, ?_, h.box, h.grown⟩
  · rw [h.front, offF_snoc id l b hlt, if_pos hi, List.append_nil]
  · rw [← List.tail_drop, ← List.tail_drop, h.back]
theorem Dl.keep (h : Dl N g ca c id l a b m w W) (hlt : b < l.length) (hi : isI id l[b] = false) : Dl N g ca c id l (a + 1) (b + 1) (m.set a l[b]) w (((W.setCell ⟨g, a * 3, none⟩ (.int .i64 l[b].id)).setCell ⟨g, a * 3 + 1, none⟩ (.string l[b].topic)).setCell ⟨g, a * 3 + 2, none⟩ (.string l[b].load)) := by
  have hab := h.lt
  have hne : c ≠ g := fun e => by
    obtain ⟨_, cur, hc⟩ := kown_at h.row (g := g) rfl
    have := h.box
    rw [e, hc] at this
    simp only [Option.some.injEq, Obj.cells.injEq] at this
    exact absurd this.2.1 (by decide)
  refine ⟨?_, by simpa using h.len, by omega, hlt, ?_, ?_, ?_, ?_⟩
  · rw [← flCells_set]
    exact kown_set (kown_set (kown_set h.row rfl _ _) rfl _ _) rfl _ _
  · have hma : a < m.length := by rw [h.len]; omega
    rw [List.take_succ_eq_append_getElem (by simpa using hma), List.take_set_of_le (Nat.le_refl a), h.front, offF_snoc id l b hlt, if_neg (by simp [hi])]
    simp
  · rw [List.drop_set_of_lt (by omega), ← List.tail_drop, h.back, List.tail_drop]
  · rw [Below.heap_setCell _ _ _ _ hne, Below.heap_setCell _ _ _ _ hne, Below.heap_setCell _ _ _ _ hne]; exact h.box
  · exact grownBy_trans h.grown (grownBy_trans (grownBy_set _ _ _ _) (grownBy_trans (grownBy_set _ _ _ _) (grownBy_set _ _ _ _)))
theorem Dl.done (h : Dl N g ca c id l a l.length m w W) : a = (offF id l).length ∧ m.take a = offF id l := by
  have h1 := h.front
  rw [List.take_length] at h1
  refine ⟨?_, h1⟩
  rw [← h1, List.length_take, h.len]
  have := h.lt; omega
end

set_option maxHeartbeats 4000000 in
set_option maxRecDepth 100000 in
theorem fdel_any (N : Nat) (l : List Fl) (aa : Option Addr) (ca c : Nat) (id : Int) (w : World) (h : w.ownsRow N 46 3 (.slice aa l.length ca) l.length (flCells l)) (hA : w.heap[c]? = some (.cells #[.int .i64 id] 3 (0, 0))) (hn : l.length ≤ 1048576) :
    Calls Tryd.prog 25 #[.slice aa l.length ca, .func (.func 26) #[] #[.pointer (some ⟨c, 0, none⟩)]] w fun e w' => e = .returned (.slice aa (offF id l).length ca) ∧ w'.ownsRow N 46 3 (.slice aa (offF id l).length ca) (offF id l).length (flCells (offF id l)) ∧ w.grownBy w' (Value.slice aa l.length ca).ownBlock := by
  have C := hide (dindex_any l aa ca c id w (own_fls h rfl) (by omega) (Lib.cell_of_heap hA 0) (Array.getElem?_eq_some_iff.1 hA).1)
  rcases idxF_spec id l 0 with ⟨e1, e2⟩ | ⟨k, hk, e1, ht, ha⟩
  · rw [e1] at C
    rw [e2]
    have HR := hide h
    clear h hA e1 e2
    go_enter Tryd.func25, Tryd.ntmps25
    go_wp2_with fail
    refine C.out.mono ?_
    rintro e w1 ⟨rfl, hb⟩
    have HB := hide hb
    clear hb C
    go_wp2
    go_ret
    exact ⟨rfl, kown_below HR.out HB.out, grownBy_below HB.out _⟩
  · rw [Nat.zero_add] at e1
    rw [e1] at C
    obtain ⟨g, rfl⟩ : ∃ g, aa = some ⟨g, 0, none⟩ := by
      rcases h.2 with ⟨_, h0⟩ | ⟨g, cap, cur, hv, _⟩
      · rw [h0] at hk; simp at hk
      · injection hv with e _ _; exact ⟨g, e⟩
    have HI : Hid (Dl N g ca c id l k (k + 1) l w w) := ⟨h, rfl, Nat.lt_succ_self k, hk, by rw [offF_snoc id l k hk, ha, if_pos ht, List.append_nil], rfl, hA, grownBy_refl w _⟩
    have CL : Hid (∀ f W, W.heap[c]? = some (.cells #[.int .i64 id] 3 (0, 0)) → Calls Tryd.prog 26 #[flV f, .pointer (some ⟨c, 0, none⟩)] W fun e w' => e = .returned (.bool (isI id f)) ∧ Below W.heap.size W w') := fun f W hW => lit_del f c id W (Lib.cell_of_heap hW 0) (Array.getElem?_eq_some_iff.1 hW).1
    have hne1 : ((k : Int) == -1) = false := beq_eq_false_iff_ne.2 (by omega)
    clear h hA e1 ht ha
    go_enter Tryd.func25, Tryd.ntmps25
    go_wp2_with fail
    refine C.out.mono ?_
    rintro e w1 ⟨rfl, hb⟩
    have HI1 := hide (HI.out.step hb)
    clear hb C HI
    go_wp2
    go_loopw [5, 6] (fun x y wr => ∃ (a b : Nat) (m : List Fl), x = .int .i64 a ∧ y = .int .i64 b ∧ a < b ∧ b ≤ l.length ∧ Hid (Dl N g ca c id l a b m w wr)) (fun _ y _ => l.length - (intOf y).toNat)
    case atStart => exact ⟨k, k + 1, l, rfl, by go_num, Nat.lt_succ_self k, hk, HI1⟩
    case round =>
      obtain ⟨a, b, m, rfl, rfl, hab, hbl, HD⟩ := hrel
      clear HI1
      by_cases hlt : b < l.length
      · obtain ⟨q0, q1, q2⟩ := HD.out.here hlt
        have hff := (kown_there HD.out.row).2.1
        have hal : a < l.length := by omega
        have HD2 := hide (HD.out.step (W' := wr.alloc (.cells #[.int .i64 l[b].id, .string l[b].topic, .string l[b].load] 46)) ((Below.refl _ wr).alloc (Nat.le_refl _) _))
        have CF := hide (CL.out l[b])
        have hbi : (b : Int) < l.length := by omega
        cases hB : isI id l[b] with
        | true =>
          have HN := hide (fun W (h : Dl N g ca c id l a b m w W) => h.skip hlt hB)
          rw [hB] at CF
          clear CL hff HD hB
          generalize l[b] = x at *
          obtain ⟨xn, xt, xp⟩ := x
          simp only [flV] at *
          go_wp2_with fail
          refine (CF.out _ HD2.out.box).mono ?_
          rintro e w2 ⟨rfl, hb2⟩
          have HD3 := hide (HN.out _ (HD2.out.step hb2))
          clear hb2 HD2 CF HN q0 q1 q2
          go_wp2
          go_round
          case rel => exact ⟨a, b + 1, m, rfl, by go_num, by omega, by omega, HD3⟩
          case measure => simp [intOf]; omega
        | false =>
          have HN := hide (fun W (h : Dl N g ca c id l a b m w W) => h.keep hlt hB)
          rw [hB] at CF
          have d0 := fl_cells wr (.int .i64 l[b].id) (.string l[b].topic) (.string l[b].load)
          clear CL hff HD hB
          generalize l[b] = x at *
          obtain ⟨xn, xt, xp⟩ := x
          simp only [flV] at *
          have hz : wr.heap.size < (wr.alloc (.cells #[.int .i64 xn, .string xt, .string xp] 46)).heap.size := by simp
          go_wp2_with fail
          refine (CF.out _ HD2.out.box).mono ?_
          rintro e w2 ⟨rfl, hb2⟩
          have HD3 := hide (HD2.out.step hb2)
          have d1 : ∀ o, w2.cell? ⟨wr.heap.size, o, none⟩ = (#[.int .i64 xn, .string xt, .string xp] : Array Value)[o]? := fun o => (hb2.cell (p := ⟨wr.heap.size, o, none⟩) hz).trans (d0 o)
          have hff := (kown_there HD3.out.row).2.1
          obtain ⟨k1, _, _⟩ := kown_there HD3.out.row
          have g0 := flCells_get m a (by rw [HD3.out.len]; omega)
          obtain ⟨o0, o1, o2, p0, p1, p2⟩ : ∃ o0 o1 o2, w2.cell? ⟨g, a * 3, none⟩ = some o0 ∧ w2.cell? ⟨g, a * 3 + 1, none⟩ = some o1 ∧ w2.cell? ⟨g, a * 3 + 2, none⟩ = some o2 := ⟨_, _, _, (k1 _ (by omega)).trans g0.1, (k1 _ (by omega)).trans g0.2.1, (k1 _ (by omega)).trans g0.2.2⟩
          have HD4 := hide (HN.out _ HD3.out)
          clear hb2 HD2 CF HN q0 q1 q2 d0 hz k1 g0 HD3
          have hai : (a : Int) < l.length := by omega
          go_wp2
          go_round
          case rel => exact ⟨a + 1, b + 1, m.set a ⟨xn, xt, xp⟩, by go_num, by go_num, by omega, by omega, HD4⟩
          case measure => simp [intOf]; omega
      · obtain rfl : b = l.length := by omega
        obtain ⟨d1, d2⟩ := HD.out.done
        obtain ⟨k1, k2, k3⟩ := kown_there HD.out.row
        have hmc := flCells_len m
        rw [HD.out.len] at hmc
        have hcl : ∀ ty, (Builtin.clear_ #[22] ty #[.slice (some ⟨g, a * 3, none⟩) (l.length - a) (ca - a)]).run Tryd.prog wr = .ok (.tuple #[]) (wr.setCells g (a * 3) (Builtin.zeroCells #[.int .i64 0, .string ⟨#[]⟩, .string ⟨#[]⟩] (l.length - a)).toList) := fun ty =>
          run_clear_cells wr _ 46 ty #[.int .i64 0, .string ⟨#[]⟩, .string ⟨#[]⟩] Tryd.underlying22 Tryd.zeroValue46 (by simp [Value.oneCell']) g (a * 3) (l.length - a) (ca - a) (by omega)
            (fun j hj => by
              have hj' : j < (l.length - a) * 3 := hj
              rw [k1 _ (by omega), List.getElem?_eq_getElem (by omega)]; rfl)
            (fun j _ => k2 _)
        have HF : Hid ((wr.setCells g (a * 3) (Builtin.zeroCells #[.int .i64 0, .string ⟨#[]⟩, .string ⟨#[]⟩] (l.length - a)).toList).ownsRow N 46 3 (.slice (some ⟨g, 0, none⟩) a ca) a (flCells (offF id l))) := by
          have := kown_clear_cut HD.out.row a (by omega) (Builtin.zeroCells #[.int .i64 0, .string ⟨#[]⟩, .string ⟨#[]⟩] (l.length - a)).toList
          rw [flCells_take, d2] at this
          exact this
        have HG := hide (grownBy_trans HD.out.grown (grownBy_setCells g (Builtin.zeroCells #[.int .i64 0, .string ⟨#[]⟩, .string ⟨#[]⟩] (l.length - a)).toList (a * 3) wr))
        have HA := hide d1
        have hac : (a : Int) ≤ ca := by omega
        have hal : (a : Int) ≤ l.length := by omega
        clear HD d1 d2 k1 k2 hmc CL
        go_wp2
        go_ret
        rw [← HA.out]
        exact ⟨rfl, HF.out, HG.out⟩
end Go.Proofs.YtnhcecgmcmcioaaDoor
