/-
  option.without (its function tells what goes): the rows of options that it makes.
-/
import Derived.Test.YtgmjdelgocbcaacDoorMsgCheck
import Derived.Test.YtgmjdelgocbcaacDoorShelf
import Derived.Handy
import Derived.Deep.AppendLies
import Derived.Deep.RegionHeld3
import Derived.Deep.DeepCutAuto
namespace Go.Proofs.YtgmjdelgocbcaacDoor
open Go.RowKit Go.PlainAid

abbrev Op2 := Int × ByteArray
def oV (o : Op2) : Value := .agg #[.int .i64 o.1, .string o.2]

theorem oclone_any (s : ByteArray) (w : World) (h : s.size ≤ 281474976710656) :
    Calls Tryd.prog 44 #[.string s] w fun e w' => e = .returned (.string s) ∧ Below w.heap.size w w' := by
  go_enter Tryd.func44, Tryd.ntmps44
  go_wp2_with (go_at_call 60; refine (Tryd.stringslite_Clone _ _ h).mono ?_; rintro e w1 ⟨rfl, hb⟩)
  go_ret
  exact ⟨rfl, hb⟩

def oCells (l : List Op2) : List Value := l.flatMap fun o => [.int .i64 o.1, .string o.2]
theorem oCells_append (a b : List Op2) : oCells (a ++ b) = oCells a ++ oCells b := by simp [oCells]
theorem oCells_get (l : List Op2) (i : Nat) (h : i < l.length) : (oCells l)[i * 2]? = some (.int .i64 l[i].1) ∧ (oCells l)[i * 2 + 1]? = some (.string l[i].2) := by
  induction l generalizing i with
  | nil => simp at h
  | cons a l ih =>
    cases i with
    | zero => simp [oCells]
    | succ i =>
      have e : oCells (a :: l) = .int .i64 a.1 :: .string a.2 :: oCells l := rfl
      have := ih i (by simpa using h)
      rw [e, show (i + 1) * 2 = i * 2 + 1 + 1 by omega, show i * 2 + 1 + 1 + 1 = (i * 2 + 1) + 1 + 1 by omega]
      simpa using this
theorem oCells_len (l : List Op2) : (oCells l).length = l.length * 2 := by
  induction l with
  | nil => rfl
  | cons a l ih => have e : oCells (a :: l) = .int .i64 a.1 :: .string a.2 :: oCells l := rfl; rw [e]; simp [ih]; omega
theorem oCells_one (l : List Op2) : ∀ u ∈ oCells l, u.oneCell' = true := fun u hu => by
  simp only [oCells, List.mem_flatMap] at hu
  obtain ⟨k, _, hk⟩ := hu
  simp only [List.mem_cons, List.not_mem_nil, or_false] at hk
  rcases hk with rfl | rfl <;> rfl
theorem oown_kept {w w' : World} {N : Nat} {e : TypeId} {k : Nat} {v : Value} {n : Nat} {xs : List Value} (h : w.ownsRow N e k v n xs) (hk : ∀ g, v.ownBlock = some g → w'.heap[g]? = w.heap[g]?) : w'.ownsRow N e k v n xs := by
  refine ⟨h.1, ?_⟩
  rcases h.2 with hn | ⟨g, cap, cur, rfl, hb, hg, rest⟩
  · exact .inl hn
  · exact .inr ⟨g, cap, cur, rfl, hb, by rw [hk g rfl]; exact hg, rest⟩
theorem oown_at {w : World} {N : Nat} {e : TypeId} {k : Nat} {v : Value} {n : Nat} {xs : List Value} (h : w.ownsRow N e k v n xs) {g : Nat} (hg : v.ownBlock = some g) : N ≤ g ∧ ∃ cur, w.heap[g]? = some (.cells cur e (0, 0)) := by
  rcases h.2 with ⟨rfl, _⟩ | ⟨g', cap, cur, rfl, hb, hg', _⟩
  · simp [Value.ownBlock] at hg
  · simp only [Value.ownBlock, Option.some.injEq] at hg
    subst hg
    exact ⟨hb, cur, hg'⟩
theorem oown_lt {w : World} {N : Nat} {e : TypeId} {k : Nat} {v : Value} {n : Nat} {xs : List Value} (h : w.ownsRow N e k v n xs) {g : Nat} (hg : v.ownBlock = some g) : g < w.heap.size := by
  obtain ⟨_, cur, hc⟩ := oown_at h hg
  exact (Array.getElem?_eq_some_iff.1 hc).1
theorem oown_below {w w' : World} {N : Nat} {e : TypeId} {k : Nat} {v : Value} {n : Nat} {xs : List Value} (h : w.ownsRow N e k v n xs) (hb : Below w.heap.size w w') : w'.ownsRow N e k v n xs := oown_kept h fun _ hg => hb.block _ (oown_lt h hg)
theorem oown_form {w : World} {B : Nat} {e : TypeId} {size : Nat} {v : Value} {n : Nat} {xs : List Value} (h : w.ownsRow B e size v n xs) : ∃ ao co, v = .slice ao n co := by
  rcases h.2 with ⟨rfl, rfl⟩ | ⟨g, cap, cur, rfl, _⟩
  · exact ⟨none, 0, rfl⟩
  · exact ⟨_, _, rfl⟩
theorem oown_mono {w : World} {N M : Nat} {e : TypeId} {k : Nat} {v : Value} {n : Nat} {xs : List Value} (h : w.ownsRow N e k v n xs) (hM : M ≤ N) : w.ownsRow M e k v n xs := by
  refine ⟨h.1, ?_⟩
  rcases h.2 with hn | ⟨g, cap, cur, rfl, hb, rest⟩
  · exact .inl hn
  · exact .inr ⟨g, cap, cur, rfl, by omega, rest⟩
theorem own_ops {w : World} {B : Nat} {ao : Option Addr} {n co : Nat} {l : List Op2} (h : w.ownsRow B 31 2 (.slice ao n co) n (oCells l)) (hn : n = l.length) : OptsIn w ao l := by
  rcases h.2 with ⟨_, h0⟩ | ⟨g, cap, cur, hv, hb, hg, _, _, _, htake⟩
  · exact .inl (List.length_eq_zero_iff.1 (hn.symm.trans h0))
  · injection hv with ha _ _
    subst ha
    refine .inr ⟨g, 0, rfl, (Array.getElem?_eq_some_iff.1 hg).1, fun i hi => ?_⟩
    have hh := oCells_get l i hi
    rw [← htake, List.getElem?_take, List.getElem?_take, if_pos (by omega), if_pos (by omega)] at hh
    rw [Nat.zero_add, Lib.cell_of_heap hg, Lib.cell_of_heap hg]
    simpa using hh

/-- a row of its own comes -/
def ORow (w : World) (L : List Op2) (e : Ending) (w' : World) : Prop := ∃ v, e = .returned v ∧ w'.ownsRow w.heap.size 31 2 v L.length (oCells L) ∧ Below w.heap.size w w'
theorem ofilter_snoc (f : Op2 → Bool) (l : List Op2) (k : Nat) (h : k < l.length) : (l.take (k + 1)).filter f = (l.take k).filter f ++ (if f l[k] then [l[k]] else []) := by
  rw [List.take_succ_eq_append_getElem h, List.filter_append]
  cases e : f l[k] <;> simp [e]
theorem opts_here {w : World} {ao : Option Addr} {l : List Op2} {k : Nat} (h : OptsIn w ao l) (hlt : k < l.length) : ∃ b o, ao = some ⟨b, o, none⟩ ∧ b < w.heap.size ∧ ∀ i (h : i < l.length), w.cell? ⟨b, o + i * 2, none⟩ = some (.int .i64 l[i].1) ∧ w.cell? ⟨b, o + i * 2 + 1, none⟩ = some (.string l[i].2) := by
  rcases h with rfl | h
  · simp at hlt
  · exact h

/-- while an option is copied: its box, and the row so far -/
structure Ot (w : World) (b : Nat) (bo : Obj) (L : List Op2) (v : Value) (W : World) : Prop where
  bel : Below w.heap.size w W
  box : W.heap[b]? = some bo
  nb : v.ownBlock ≠ some b
  row : W.ownsRow w.heap.size 31 2 v L.length (oCells L)
theorem Ot.step {w : World} {b : Nat} {o : Obj} {L : List Op2} {v : Value} {W W' : World} (h : Ot w b o L v W) (hb : Below W.heap.size W W') : Ot w b o L v W' :=
  ⟨h.bel.trans (hb.mono h.bel.size), (hb.block _ (Array.getElem?_eq_some_iff.1 h.box).1).trans h.box, h.nb, oown_below h.row hb⟩
theorem Ot.alloc {w : World} {b : Nat} {o : Obj} {L : List Op2} {v : Value} {W : World} (h : Ot w b o L v W) (x : Obj) : Ot w b o L v (W.alloc x) := h.step ((Below.refl _ W).alloc (Nat.le_refl _) x)
theorem Ot.drew {w : World} {b : Nat} {o : Obj} {L : List Op2} {v : Value} {W : World} (h : Ot w b o L v W) : Ot w b o L v W.drew := ⟨h.bel.drew, h.box, h.nb, h.row⟩
theorem Ot.lt {w : World} {b : Nat} {o : Obj} {L : List Op2} {v : Value} {W : World} (h : Ot w b o L v W) : b < W.heap.size := (Array.getElem?_eq_some_iff.1 h.box).1
theorem Ot.cell {w : World} {b : Nat} {c : Array Value} {t : TypeId} {L : List Op2} {v : Value} {W : World} (h : Ot w b (.cells c t (0, 0)) L v W) (i : Nat) : W.cell? ⟨b, i, none⟩ = c[i]? := Lib.cell_of_heap h.box i
theorem oblk1 {W : World} {o : Obj} {b : Nat} (hb : b = W.heap.size) : (W.alloc o).heap[b]? = some o := by subst hb; exact Go.heap_alloc_new W o
section
variable {ops : Array Oper} {o : Oper} {a : Act} {K : Act → World → Prop} {Q : Exit → Act → World → Prop} {E : Prop} {w W : World} {b : Nat} {bo : Obj} {L : List Op2} {va : Value}
theorem stepO (hgd : o.guard = none) (x y : Operand) (ho : o.op = .call { callee := .builtin .append, args := #[x, y], argTypes := #[22, 22] })
    (hx : a.eval x = va) (B : Nat) (hy : a.eval y = .slice (some ⟨B, 0, none⟩) 1 1) (hI : Ot w b bo L va W) (n : Int) (s : ByteArray) (hB : W.heap[B]? = some (.cells #[.int .i64 n, .string s] 31 (0, 0))) (hL : L.length ≤ 100)
    (h : ∀ g cap W', Ot w b bo (L ++ [(n, s)]) (.slice (some ⟨g, 0, none⟩) (L.length + 1) cap) W' → K (a.put o.dst (.slice (some ⟨g, 0, none⟩) (L.length + 1) cap)) W') :
    if Region.wanted o (yielded ops a.tmps) = true then Oper.wp Tryd.prog o a W K Q else E := by
  obtain ⟨i0, hi, hz0, hz1, hz2⟩ := info_parts (show (Tryd.prog.info? 31).map (fun i => (i.zero, i.size, i.bytes)) = some (some (.agg #[.int .i64 0, .string ⟨#[]⟩]), 2, 24) by kernel_rfl)
  refine step_append_lies W hgd x y 22 ho w.heap.size 31 i0 _ 2 24 Tryd.underlying22 hi hz0 hz1 hz2 rfl (by decide) va L.length _ hx hI.row ⟨B, 0, none⟩ 1 1 [.int .i64 n, .string s] hy rfl (World.news_of_block hB) (by simp [Value.oneCell']) (by decide) (by unfold maxLen; omega) (by omega) hI.bel.size _ rfl ?_
  intro g cap W' hown hgrow hat hlt
  refine h g cap W' ⟨Below.grown hI.bel hgrow hI.bel.size (fun g hg' => (oown_at hI.row hg').1), ?_, ?_, by rw [oCells_append, List.length_append]; exact hown⟩
  · rw [hgrow.block _ hI.lt (fun e => hI.nb e.symm)]
    exact hI.box
  · intro e
    simp only [Value.ownBlock, Option.some.injEq] at e
    subst e
    rcases hat with h1 | h1
    · exact hI.nb h1
    · have := hI.lt; omega
end

set_option maxHeartbeats 4000000 in
set_option maxRecDepth 100000 in
theorem without_lt (c : Nat) (f : Op2 → Bool) (l : List Op2) (ao : Option Addr) (co : Nat) (w : World) (hl : OptsIn w ao l) (hn : l.length ≤ 12)
    (hs : ∀ k ∈ l, k.2.size ≤ 281474976710656)
    (hC : ∀ k W, Below w.heap.size w W → Calls Tryd.prog 43 #[oV k, .pointer (some ⟨c, 0, none⟩)] W fun e w' => e = .returned (.bool (!f k)) ∧ Below W.heap.size W w') :
    Calls Tryd.prog 42 #[.slice ao l.length co, .func (.func 43) #[] #[.pointer (some ⟨c, 0, none⟩)]] w (ORow w (l.filter f)) := by
  generalize hR : l.filter f = R
  have HR0 := hide hR
  have HL := hide hl
  have HS := hide hs
  have HC := hide hC
  clear hR hl hs hC
  go_enter Tryd.func42, Tryd.ntmps42
  go_wp2
  go_loopw [5, 10] (fun a i wr => ∃ (k : Nat) (aa : Option Addr) (ca : Nat), k ≤ l.length ∧ i = .int .i64 k ∧ a = .slice aa ((l.take k).filter f).length ca ∧ Hid (wr.ownsRow w.heap.size 31 2 (.slice aa ((l.take k).filter f).length ca) ((l.take k).filter f).length (oCells ((l.take k).filter f)) ∧ Below w.heap.size w wr)) (fun _ i _ => l.length - (intOf i).toNat)
  case atStart => exact ⟨0, none, 0, by omega, rfl, rfl, World.ownsRow_nil _ _ _ _, Below.refl _ _⟩
  case round =>
    obtain ⟨k, aa, ca, hk, rfl, rfl, HR⟩ := hrel
    have hsz := HR.out.2.size
    by_cases hlt : k < l.length
    · obtain ⟨b, o, rfl, hb, hcell⟩ := opts_here HL.out hlt
      have hk1 : wr.cell? ⟨b, o + k * 2, none⟩ = some (.int .i64 l[k].1) := by rw [HR.out.2.cell (p := ⟨b, _, none⟩) hb]; exact (hcell k hlt).1
      have hk2 : wr.cell? ⟨b, o + k * 2 + 1, none⟩ = some (.string l[k].2) := by rw [HR.out.2.cell (p := ⟨b, _, none⟩) hb]; exact (hcell k hlt).2
      have C := hide (HC.out l[k])
      have CK := hide (fun W => oclone_any l[k].2 W (HS.out _ (List.getElem_mem _)))
      have HSN := hide (ofilter_snoc f l k hlt)
      have hle : ((l.take k).filter f).length ≤ 12 := Nat.le_trans (List.length_filter_le _ _) (by rw [List.length_take]; omega)
      clear hcell HL HS HC
      generalize hkk : l[k] = x at *
      clear hkk
      generalize (l.take k).filter f = X at *
      generalize f x = Y at *
      obtain ⟨n, s⟩ := x
      simp only [oV] at hk1 hk2 C CK HSN
      have HI : Hid (Ot w wr.heap.size (.cells #[.int .i64 n, .string s] 31 (0, 0)) X (.slice aa X.length ca) (wr.alloc (.cells #[.int .i64 n, .string s] 31))) := ⟨HR.out.2.alloc hsz _, Go.heap_alloc_new wr _, fun e => by have := oown_lt HR.out.1 e; omega, HR.out.1.alloc _⟩
      go_wp2_with fail
      refine (C.out _ HI.out.bel).mono ?_
      rintro e w1 ⟨rfl, hb1⟩
      have HI1 := hide (HI.out.step hb1)
      clear hb1 C HI
      cases Y with
      | false =>
        have HQ : Hid ((l.take (k + 1)).filter f = X) := by show _ = _; have := HSN.out; simpa using this
        go_wp2
        go_round
        case rel => exact ⟨k + 1, aa, ca, by omega, by go_num, by rw [HQ.out], by rw [HQ.out]; exact HI1.out.row, HI1.out.bel⟩
        case measure => simp [intOf]; omega
      | true =>
        have HQ : Hid ((l.take (k + 1)).filter f = X ++ [(n, s)]) := by show _ = _; have := HSN.out; simpa using this
        have q0 : w1.cell? ⟨wr.heap.size, 0, none⟩ = some (.int .i64 n) := HI1.out.cell 0
        have q1 : w1.cell? ⟨wr.heap.size, 1, none⟩ = some (.string s) := HI1.out.cell 1
        have hlt1 := HI1.out.lt
        have hne : wr.heap.size ≠ w1.heap.size := by omega
        have HL100 : Hid (X.length ≤ 100) := by show _ ≤ _; omega
        go_wp2_with fail
        go_region_held3 (fun w' => w'.cell? ⟨wr.heap.size, 0, none⟩ = some (.int .i64 n) ∧ w'.cell? ⟨wr.heap.size, 1, none⟩ = some (.string s)) (go_keep)
          (first
            | (go_at_call 44; refine (CK.out _).mono ?_; rintro e wa ⟨rfl, hba⟩; have IA := HI1.out.drew.step hba; have j0 : wa.cell? ⟨wr.heap.size, 0, none⟩ = some (.int .i64 n) := IA.cell 0; have j1 : wa.cell? ⟨wr.heap.size, 1, none⟩ = some (.string s) := IA.cell 1; have hlta := IA.lt; have hnea : wr.heap.size ≠ wa.heap.size := (by omega))
            | (refine stepO (w := w) (b := wr.heap.size) (bo := .cells #[.int .i64 n, .string s] 31 (0, 0)) (L := X) (by rfl) _ _ (by rfl) (by rfl) _ (by rfl) (IA.alloc _) n s (oblk1 rfl) HL100.out ?_; intro g cap wz IZ; have k0 : wz.cell? ⟨wr.heap.size, 0, none⟩ = some (.int .i64 n) := IZ.cell 0; have k1 : wz.cell? ⟨wr.heap.size, 1, none⟩ = some (.string s) := IZ.cell 1)
            | fail)
        all_goals
          have HIZ := hide IZ
          clear IZ IA
          go_wp2
          go_round
          case rel => exact ⟨k + 1, some ⟨g, 0, none⟩, cap, by omega, by go_num, by rw [HQ.out, List.length_append]; rfl, by have hh := HIZ.out.row; rw [List.length_append] at hh; rw [HQ.out, List.length_append]; exact hh, HIZ.out.bel⟩
          case measure => simp [intOf]; omega
    · have hke : l.take k = l := List.take_of_length_le (by omega)
      rw [hke, HR0.out] at HR ⊢
      clear hke
      go_wp2
      go_ret
      exact ⟨_, rfl, HR.out.1, HR.out.2⟩

set_option maxHeartbeats 4000000 in
set_option maxRecDepth 100000 in
theorem without_gt (c : Nat) (f : Op2 → Bool) (l : List Op2) (ao : Option Addr) (co : Nat) (w : World) (hl : OptsIn w ao l) (hn : l.length ≤ 12)
    (hs : ∀ k ∈ l, k.2.size ≤ 281474976710656)
    (hC : ∀ k W, Below w.heap.size w W → Calls Tryd.prog 45 #[oV k, .pointer (some ⟨c, 0, none⟩)] W fun e w' => e = .returned (.bool (!f k)) ∧ Below W.heap.size W w') :
    Calls Tryd.prog 42 #[.slice ao l.length co, .func (.func 45) #[] #[.pointer (some ⟨c, 0, none⟩)]] w (ORow w (l.filter f)) := by
  generalize hR : l.filter f = R
  have HR0 := hide hR
  have HL := hide hl
  have HS := hide hs
  have HC := hide hC
  clear hR hl hs hC
  go_enter Tryd.func42, Tryd.ntmps42
  go_wp2
  go_loopw [5, 10] (fun a i wr => ∃ (k : Nat) (aa : Option Addr) (ca : Nat), k ≤ l.length ∧ i = .int .i64 k ∧ a = .slice aa ((l.take k).filter f).length ca ∧ Hid (wr.ownsRow w.heap.size 31 2 (.slice aa ((l.take k).filter f).length ca) ((l.take k).filter f).length (oCells ((l.take k).filter f)) ∧ Below w.heap.size w wr)) (fun _ i _ => l.length - (intOf i).toNat)
  case atStart => exact ⟨0, none, 0, by omega, rfl, rfl, World.ownsRow_nil _ _ _ _, Below.refl _ _⟩
  case round =>
    obtain ⟨k, aa, ca, hk, rfl, rfl, HR⟩ := hrel
    have hsz := HR.out.2.size
    by_cases hlt : k < l.length
    · obtain ⟨b, o, rfl, hb, hcell⟩ := opts_here HL.out hlt
      have hk1 : wr.cell? ⟨b, o + k * 2, none⟩ = some (.int .i64 l[k].1) := by rw [HR.out.2.cell (p := ⟨b, _, none⟩) hb]; exact (hcell k hlt).1
      have hk2 : wr.cell? ⟨b, o + k * 2 + 1, none⟩ = some (.string l[k].2) := by rw [HR.out.2.cell (p := ⟨b, _, none⟩) hb]; exact (hcell k hlt).2
      have C := hide (HC.out l[k])
      have CK := hide (fun W => oclone_any l[k].2 W (HS.out _ (List.getElem_mem _)))
      have HSN := hide (ofilter_snoc f l k hlt)
      have hle : ((l.take k).filter f).length ≤ 12 := Nat.le_trans (List.length_filter_le _ _) (by rw [List.length_take]; omega)
      clear hcell HL HS HC
      generalize hkk : l[k] = x at *
      clear hkk
      generalize (l.take k).filter f = X at *
      generalize f x = Y at *
      obtain ⟨n, s⟩ := x
      simp only [oV] at hk1 hk2 C CK HSN
      have HI : Hid (Ot w wr.heap.size (.cells #[.int .i64 n, .string s] 31 (0, 0)) X (.slice aa X.length ca) (wr.alloc (.cells #[.int .i64 n, .string s] 31))) := ⟨HR.out.2.alloc hsz _, Go.heap_alloc_new wr _, fun e => by have := oown_lt HR.out.1 e; omega, HR.out.1.alloc _⟩
      go_wp2_with fail
      refine (C.out _ HI.out.bel).mono ?_
      rintro e w1 ⟨rfl, hb1⟩
      have HI1 := hide (HI.out.step hb1)
      clear hb1 C HI
      cases Y with
      | false =>
        have HQ : Hid ((l.take (k + 1)).filter f = X) := by show _ = _; have := HSN.out; simpa using this
        go_wp2
        go_round
        case rel => exact ⟨k + 1, aa, ca, by omega, by go_num, by rw [HQ.out], by rw [HQ.out]; exact HI1.out.row, HI1.out.bel⟩
        case measure => simp [intOf]; omega
      | true =>
        have HQ : Hid ((l.take (k + 1)).filter f = X ++ [(n, s)]) := by show _ = _; have := HSN.out; simpa using this
        have q0 : w1.cell? ⟨wr.heap.size, 0, none⟩ = some (.int .i64 n) := HI1.out.cell 0
        have q1 : w1.cell? ⟨wr.heap.size, 1, none⟩ = some (.string s) := HI1.out.cell 1
        have hlt1 := HI1.out.lt
        have hne : wr.heap.size ≠ w1.heap.size := by omega
        have HL100 : Hid (X.length ≤ 100) := by show _ ≤ _; omega
        go_wp2_with fail
        go_region_held3 (fun w' => w'.cell? ⟨wr.heap.size, 0, none⟩ = some (.int .i64 n) ∧ w'.cell? ⟨wr.heap.size, 1, none⟩ = some (.string s)) (go_keep)
          (first
            | (go_at_call 44; refine (CK.out _).mono ?_; rintro e wa ⟨rfl, hba⟩; have IA := HI1.out.drew.step hba; have j0 : wa.cell? ⟨wr.heap.size, 0, none⟩ = some (.int .i64 n) := IA.cell 0; have j1 : wa.cell? ⟨wr.heap.size, 1, none⟩ = some (.string s) := IA.cell 1; have hlta := IA.lt; have hnea : wr.heap.size ≠ wa.heap.size := (by omega))
            | (refine stepO (w := w) (b := wr.heap.size) (bo := .cells #[.int .i64 n, .string s] 31 (0, 0)) (L := X) (by rfl) _ _ (by rfl) (by rfl) _ (by rfl) (IA.alloc _) n s (oblk1 rfl) HL100.out ?_; intro g cap wz IZ; have k0 : wz.cell? ⟨wr.heap.size, 0, none⟩ = some (.int .i64 n) := IZ.cell 0; have k1 : wz.cell? ⟨wr.heap.size, 1, none⟩ = some (.string s) := IZ.cell 1)
            | fail)
        all_goals
          have HIZ := hide IZ
          clear IZ IA
          go_wp2
          go_round
          case rel => exact ⟨k + 1, some ⟨g, 0, none⟩, cap, by omega, by go_num, by rw [HQ.out, List.length_append]; rfl, by have hh := HIZ.out.row; rw [List.length_append] at hh; rw [HQ.out, List.length_append]; exact hh, HIZ.out.bel⟩
          case measure => simp [intOf]; omega
    · have hke : l.take k = l := List.take_of_length_le (by omega)
      rw [hke, HR0.out] at HR ⊢
      clear hke
      go_wp2
      go_ret
      exact ⟨_, rfl, HR.out.1, HR.out.2⟩

set_option maxHeartbeats 4000000 in
set_option maxRecDepth 100000 in
theorem without_is (c : Nat) (f : Op2 → Bool) (l : List Op2) (ao : Option Addr) (co : Nat) (w : World) (hl : OptsIn w ao l) (hn : l.length ≤ 12)
    (hs : ∀ k ∈ l, k.2.size ≤ 281474976710656)
    (hC : ∀ k W, Below w.heap.size w W → Calls Tryd.prog 48 #[oV k, .pointer (some ⟨c, 0, none⟩)] W fun e w' => e = .returned (.bool (!f k)) ∧ Below W.heap.size W w') :
    Calls Tryd.prog 42 #[.slice ao l.length co, .func (.func 48) #[] #[.pointer (some ⟨c, 0, none⟩)]] w (ORow w (l.filter f)) := by
  generalize hR : l.filter f = R
  have HR0 := hide hR
  have HL := hide hl
  have HS := hide hs
  have HC := hide hC
  clear hR hl hs hC
  go_enter Tryd.func42, Tryd.ntmps42
  go_wp2
  go_loopw [5, 10] (fun a i wr => ∃ (k : Nat) (aa : Option Addr) (ca : Nat), k ≤ l.length ∧ i = .int .i64 k ∧ a = .slice aa ((l.take k).filter f).length ca ∧ Hid (wr.ownsRow w.heap.size 31 2 (.slice aa ((l.take k).filter f).length ca) ((l.take k).filter f).length (oCells ((l.take k).filter f)) ∧ Below w.heap.size w wr)) (fun _ i _ => l.length - (intOf i).toNat)
  case atStart => exact ⟨0, none, 0, by omega, rfl, rfl, World.ownsRow_nil _ _ _ _, Below.refl _ _⟩
  case round =>
    obtain ⟨k, aa, ca, hk, rfl, rfl, HR⟩ := hrel
    have hsz := HR.out.2.size
    by_cases hlt : k < l.length
    · obtain ⟨b, o, rfl, hb, hcell⟩ := opts_here HL.out hlt
      have hk1 : wr.cell? ⟨b, o + k * 2, none⟩ = some (.int .i64 l[k].1) := by rw [HR.out.2.cell (p := ⟨b, _, none⟩) hb]; exact (hcell k hlt).1
      have hk2 : wr.cell? ⟨b, o + k * 2 + 1, none⟩ = some (.string l[k].2) := by rw [HR.out.2.cell (p := ⟨b, _, none⟩) hb]; exact (hcell k hlt).2
      have C := hide (HC.out l[k])
      have CK := hide (fun W => oclone_any l[k].2 W (HS.out _ (List.getElem_mem _)))
      have HSN := hide (ofilter_snoc f l k hlt)
      have hle : ((l.take k).filter f).length ≤ 12 := Nat.le_trans (List.length_filter_le _ _) (by rw [List.length_take]; omega)
      clear hcell HL HS HC
      generalize hkk : l[k] = x at *
      clear hkk
      generalize (l.take k).filter f = X at *
      generalize f x = Y at *
      obtain ⟨n, s⟩ := x
      simp only [oV] at hk1 hk2 C CK HSN
      have HI : Hid (Ot w wr.heap.size (.cells #[.int .i64 n, .string s] 31 (0, 0)) X (.slice aa X.length ca) (wr.alloc (.cells #[.int .i64 n, .string s] 31))) := ⟨HR.out.2.alloc hsz _, Go.heap_alloc_new wr _, fun e => by have := oown_lt HR.out.1 e; omega, HR.out.1.alloc _⟩
      go_wp2_with fail
      refine (C.out _ HI.out.bel).mono ?_
      rintro e w1 ⟨rfl, hb1⟩
      have HI1 := hide (HI.out.step hb1)
      clear hb1 C HI
      cases Y with
      | false =>
        have HQ : Hid ((l.take (k + 1)).filter f = X) := by show _ = _; have := HSN.out; simpa using this
        go_wp2
        go_round
        case rel => exact ⟨k + 1, aa, ca, by omega, by go_num, by rw [HQ.out], by rw [HQ.out]; exact HI1.out.row, HI1.out.bel⟩
        case measure => simp [intOf]; omega
      | true =>
        have HQ : Hid ((l.take (k + 1)).filter f = X ++ [(n, s)]) := by show _ = _; have := HSN.out; simpa using this
        have q0 : w1.cell? ⟨wr.heap.size, 0, none⟩ = some (.int .i64 n) := HI1.out.cell 0
        have q1 : w1.cell? ⟨wr.heap.size, 1, none⟩ = some (.string s) := HI1.out.cell 1
        have hlt1 := HI1.out.lt
        have hne : wr.heap.size ≠ w1.heap.size := by omega
        have HL100 : Hid (X.length ≤ 100) := by show _ ≤ _; omega
        go_wp2_with fail
        go_region_held3 (fun w' => w'.cell? ⟨wr.heap.size, 0, none⟩ = some (.int .i64 n) ∧ w'.cell? ⟨wr.heap.size, 1, none⟩ = some (.string s)) (go_keep)
          (first
            | (go_at_call 44; refine (CK.out _).mono ?_; rintro e wa ⟨rfl, hba⟩; have IA := HI1.out.drew.step hba; have j0 : wa.cell? ⟨wr.heap.size, 0, none⟩ = some (.int .i64 n) := IA.cell 0; have j1 : wa.cell? ⟨wr.heap.size, 1, none⟩ = some (.string s) := IA.cell 1; have hlta := IA.lt; have hnea : wr.heap.size ≠ wa.heap.size := (by omega))
            | (refine stepO (w := w) (b := wr.heap.size) (bo := .cells #[.int .i64 n, .string s] 31 (0, 0)) (L := X) (by rfl) _ _ (by rfl) (by rfl) _ (by rfl) (IA.alloc _) n s (oblk1 rfl) HL100.out ?_; intro g cap wz IZ; have k0 : wz.cell? ⟨wr.heap.size, 0, none⟩ = some (.int .i64 n) := IZ.cell 0; have k1 : wz.cell? ⟨wr.heap.size, 1, none⟩ = some (.string s) := IZ.cell 1)
            | fail)
        all_goals
          have HIZ := hide IZ
          clear IZ IA
          go_wp2
          go_round
          case rel => exact ⟨k + 1, some ⟨g, 0, none⟩, cap, by omega, by go_num, by rw [HQ.out, List.length_append]; rfl, by have hh := HIZ.out.row; rw [List.length_append] at hh; rw [HQ.out, List.length_append]; exact hh, HIZ.out.bel⟩
          case measure => simp [intOf]; omega
    · have hke : l.take k = l := List.take_of_length_le (by omega)
      rw [hke, HR0.out] at HR ⊢
      clear hke
      go_wp2
      go_ret
      exact ⟨_, rfl, HR.out.1, HR.out.2⟩

end Go.Proofs.YtgmjdelgocbcaacDoor
