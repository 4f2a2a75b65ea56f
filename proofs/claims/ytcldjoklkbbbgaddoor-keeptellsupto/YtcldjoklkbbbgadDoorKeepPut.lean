/-
  keep.Put: what it answers.
-/
import Derived.Test.YtcldjoklkbbbgadDoorKeepCalls
namespace Go.Proofs.YtcldjoklkbbbgadDoor
open Go.RowKit Go.PlainAid

theorem kappend_zero (W : World) (av : Option Addr) (n cv : Nat) (hv : (av = none ∧ n = 0 ∧ cv = 0) ∨ (∃ g, av = some ⟨g, 0, none⟩ ∧ n ≤ cv)) (ao : Option Addr) (co : Nat) :
    (Builtin.append_ #[22, 22] 22 #[.slice av n cv, .slice ao 0 co]).run Tryd.prog W = .ok (.slice av n cv) W := by
  obtain ⟨i0, hi, hz0, hz1, hz2⟩ := info_parts (show (Tryd.prog.info? 27).map (fun i => (i.zero, i.size, i.bytes)) = some (some (.agg #[.string ⟨#[]⟩, .string ⟨#[]⟩, .int .i64 0]), 3, 40) by kernel_rfl)
  rcases hv with ⟨rfl, rfl, rfl⟩ | ⟨g, rfl, h⟩
  · cases ao <;> simp [Builtin.append_, run_underlying Tryd.underlying22, sizeOf, typeInfo, hi, Builtin.lenOf, Builtin.firstCells, loadCells, loadCellsFrom]
  · cases ao <;> simp [Builtin.append_, run_underlying Tryd.underlying22, sizeOf, typeInfo, hi, Builtin.lenOf, Builtin.firstCells, loadCells, loadCellsFrom, storeCells, h]
theorem wpList_append_none {P : Program} {ops : Array Oper} {rest : List Oper} {o : Oper} {a : Act} {W : World} {Q : Exit → Act → World → Prop} (hgd : o.guard = none) (s x : Operand) (t : TypeId)
    (ho : o.op = .call { callee := .builtin .append, args := #[s, x], argTypes := #[t, t] }) (v y : Value) (hs : a.eval s = v) (hx : a.eval x = y) (hrun : (Builtin.append_ #[t, t] o.type #[v, y]).run P W = .ok v W) (h : wpList P ops Q rest (a.put o.dst v) W) :
    wpList P ops Q (o :: rest) a W := by
  refine wpList_plain hgd fun K hK => ?_
  unfold Oper.wp execOp
  simp only [ho, resolve, invoke, builtin, Sem.run_bind, Sem.run_pure, Result.andThen_ok, List.map_toArray, List.map_cons, List.map_nil, hs, hx, hrun]
  exact hK _ _ h
theorem kadd_none (b o i : Nat) : (⟨b, o, none⟩ : Addr).add i = ⟨b, o + i, none⟩ := by unfold Addr.add; split <;> simp_all
theorem krow_form {w : World} {B : Nat} {ao : Option Addr} {n co : Nat} {xs : List Value} (h : w.ownsRow B 27 3 (.slice ao n co) n xs) : (ao = none ∧ n = 0 ∧ co = 0) ∨ (∃ g, ao = some ⟨g, 0, none⟩ ∧ n ≤ co) := by
  rcases h.2 with ⟨hv, h0⟩ | ⟨g, cap, cur, hv, hb, hg, hnc, _⟩
  · injection hv with ha _ hc
    exact .inl ⟨ha, h0, hc⟩
  · injection hv with ha _ hc
    subst hc
    exact .inr ⟨g, ha, hnc⟩
theorem krow_news {w : World} {B g n co : Nat} {l : List Kp} (h : w.ownsRow B 27 3 (.slice (some ⟨g, 0, none⟩) n co) n (kpCells l)) : ∀ j u, (kpCells l)[j]? = some u → w.cell? ((⟨g, 0, none⟩ : Addr).add j) = some u := fun j u hu => by
  rcases h.2 with ⟨hv, h0⟩ | ⟨g', cap, cur, hv, hb, hg, hnc, _, _, htake⟩
  · cases hv
  · injection hv with ha _ _
    injection ha with ha
    injection ha with ha
    subst ha
    rw [← htake, List.getElem?_take] at hu
    split at hu
    · rw [kadd_none, Nat.zero_add, Lib.cell_of_heap hg]
      simpa using hu
    · cases hu

/-- what Put holds while it works: the box of the name, and its row so far -/
structure Pt (w : World) (n : ByteArray) (L : List Kp) (v : Value) (W : World) : Prop where
  bel : Below w.heap.size w W
  box : W.heap[w.heap.size]? = some (.cells #[.string n] 9 (0, 0))
  row : W.ownsRow w.heap.size 27 3 v L.length (kpCells L)
theorem Pt.step {w : World} {n : ByteArray} {L : List Kp} {v : Value} {W W' : World} (h : Pt w n L v W) (hb : Below W.heap.size W W') : Pt w n L v W' :=
  ⟨h.bel.trans (hb.mono h.bel.size), (hb.block _ (Array.getElem?_eq_some_iff.1 h.box).1).trans h.box, kown_below h.row hb⟩
theorem Pt.drew {w : World} {n : ByteArray} {L : List Kp} {v : Value} {W : World} (h : Pt w n L v W) : Pt w n L v W.drew := ⟨h.bel.drew, h.box, h.row⟩
theorem Pt.cell {w : World} {n : ByteArray} {L : List Kp} {v : Value} {W : World} (h : Pt w n L v W) : W.cell? ⟨w.heap.size, 0, none⟩ = some (.string n) := Lib.cell_of_heap h.box 0
theorem Pt.lt {w : World} {n : ByteArray} {L : List Kp} {v : Value} {W : World} (h : Pt w n L v W) : w.heap.size < W.heap.size := (Array.getElem?_eq_some_iff.1 h.box).1
theorem Pt.grown {w : World} {n : ByteArray} {L L' : List Kp} {v v' : Value} {W W' : World} (h : Pt w n L v W) (hg : W.grownBy W' v.ownBlock) (hr : W'.ownsRow w.heap.size 27 3 v' L'.length (kpCells L')) : Pt w n L' v' W' := by
  refine ⟨Below.grown h.bel hg h.bel.size (fun g hg' => (kown_at h.row hg').1), ?_, hr⟩
  rw [hg.block _ h.lt (fun e => ?_)]
  · exact h.box
  · obtain ⟨_, cur, hc⟩ := kown_at h.row e.symm
    rw [h.box] at hc
    simp only [Option.some.injEq, Obj.cells.injEq] at hc
    exact absurd hc.2.1 (by decide)

theorem kblk1 {W : World} {o : Obj} {b : Nat} (hb : b = W.heap.size) : (W.alloc o).heap[b]? = some o := by subst hb; exact Go.heap_alloc_new W o
section
variable {ops : Array Oper} {o : Oper} {a : Act} {K : Act → World → Prop} {Q : Exit → Act → World → Prop} {E : Prop} {w W : World} {n : ByteArray} {L : List Kp} {va : Value}
theorem stepK (hgd : o.guard = none) (x y : Operand) (ho : o.op = .call { callee := .builtin .append, args := #[x, y], argTypes := #[22, 22] })
    (hx : a.eval x = va) (B : Nat) (hy : a.eval y = .slice (some ⟨B, 0, none⟩) 1 1) (hI : Pt w n L va W) (k : Kp) (hB : W.heap[B]? = some (.cells #[.string k.topic, .string k.payload, .int .i64 k.ver] 27 (0, 0))) (hL : L.length ≤ 100)
    (h : ∀ g cap W', Pt w n (L ++ [k]) (.slice (some ⟨g, 0, none⟩) (L.length + 1) cap) W' → K (a.put o.dst (.slice (some ⟨g, 0, none⟩) (L.length + 1) cap)) W') :
    if Region.wanted o (yielded ops a.tmps) = true then Oper.wp Tryd.prog o a W K Q else E := by
  obtain ⟨i0, hi, hz0, hz1, hz2⟩ := info_parts (show (Tryd.prog.info? 27).map (fun i => (i.zero, i.size, i.bytes)) = some (some (.agg #[.string ⟨#[]⟩, .string ⟨#[]⟩, .int .i64 0]), 3, 40) by kernel_rfl)
  refine step_append_lies W hgd x y 22 ho w.heap.size 27 i0 _ 3 40 Tryd.underlying22 hi hz0 hz1 hz2 rfl (by decide) va L.length _ hx hI.row ⟨B, 0, none⟩ 1 1 [.string k.topic, .string k.payload, .int .i64 k.ver] hy rfl (World.news_of_block hB) (by simp [Value.oneCell']) (by decide) (by unfold maxLen; omega) (by omega) hI.bel.size _ rfl ?_
  intro g cap W' hown hgrow hat hlt
  refine h g cap W' (Pt.grown hI hgrow ?_)
  rw [kpCells_append, List.length_append]
  exact hown
end

set_option maxHeartbeats 4000000 in
set_option maxRecDepth 100000 in
theorem kput_any (l : List Kp) (n p : ByteArray) (ao : Option Addr) (co : Nat) (w : World) (hl : KpsIn w ao l) (hm : Max w) :
    Calls Tryd.prog 5 #[.slice ao l.length co, .string n, .string p] w (KPost w (putA l n p) (putE l n p)) := by
  obtain ⟨i0, hi, hz0, hz1, hz2⟩ := info_parts (show (Tryd.prog.info? 27).map (fun i => (i.zero, i.size, i.bytes)) = some (some (.agg #[.string ⟨#[]⟩, .string ⟨#[]⟩, .int .i64 0]), 3, 40) by kernel_rfl)
  have HB := hide ((Below.refl w.heap.size w).alloc (Nat.le_refl _) (.cells #[.string n] 9))
  have C1 : Hid (∀ W, Below w.heap.size w W → Calls Tryd.prog 17 #[.string n] W fun e w' => e = .returned (.int .i64 (chk nameF n)) ∧ Below W.heap.size W w') := fun W h => name_max n W (hm.below h)
  have C2 : Hid (∀ W, Below w.heap.size w W → Calls Tryd.prog 16 #[.slice ao l.length co, .int .i64 (chk nameF n)] W fun e w' => e = .returned (.int .i64 (allE l (chk nameF n))) ∧ Below W.heap.size W w') := fun W h => checkAll_any l _ ao co W (hl.below h) (hm.below h)
  have C3 : Hid (chkK l = 0 → ∀ W, Below w.heap.size w W → W.cell? ⟨w.heap.size, 0, none⟩ = some (.string n) → w.heap.size < W.heap.size → Calls Tryd.prog 18 #[.slice ao l.length co, .func (.func 19) #[] #[.pointer (some ⟨w.heap.size, 0, none⟩)]] W (KRow W (l.filter (ltT n)))) := fun h W hW hc hz =>
    those_lt w.heap.size (ltT n) l ao co W (hl.below hW) ((chkK_iff l).1 h).1 (small_of h) fun k W' hW' => lit_lt k w.heap.size n W' ((hW'.cell (p := ⟨w.heap.size, 0, none⟩) hz).trans hc) (Nat.lt_of_lt_of_le hz hW'.size)
  have C4 : Hid (chkK l = 0 → ∀ W, Below w.heap.size w W → W.cell? ⟨w.heap.size, 0, none⟩ = some (.string n) → w.heap.size < W.heap.size → Calls Tryd.prog 18 #[.slice ao l.length co, .func (.func 22) #[] #[.pointer (some ⟨w.heap.size, 0, none⟩)]] W (KRow W (l.filter (gtT n)))) := fun h W hW hc hz =>
    those_gt w.heap.size (gtT n) l ao co W (hl.below hW) ((chkK_iff l).1 h).1 (small_of h) fun k W' hW' => lit_gt k w.heap.size n W' ((hW'.cell (p := ⟨w.heap.size, 0, none⟩) hz).trans hc) (Nat.lt_of_lt_of_le hz hW'.size)
  have C5 : Hid (chkK l = 0 → ∀ W, Below w.heap.size w W → Calls Tryd.prog 21 #[.slice ao l.length co, .string n] W fun e w' => e = .returned (.int .i64 (nextV l n)) ∧ Below W.heap.size W w') := fun h W hW => nextVersion_any l n ao co W (hl.below hW) h
  have C6 : Hid (chk nameF n = 0 → p.size ≤ 200 → ∀ W, Calls Tryd.prog 20 #[.agg #[.string n, .string p, .int .i64 (nextV l n)]] W fun e w' => e = .returned (.agg #[.string n, .string p, .int .i64 (nextV l n)]) ∧ Below W.heap.size W w') := fun h1 h2 W => clone_kp ⟨n, p, nextV l n⟩ W (by have := (chk_ok h1).1; show n.size ≤ _; omega) (by show p.size ≤ _; omega)
  have HC0 : Hid (allE l (chk nameF n) = 0 → chkK l = 0 ∧ chk nameF n = 0 ∧ l.length ≤ 16) := fun h => by
    unfold allE at h
    split at h
    · rename_i h4; exact absurd h h4
    · rename_i h4; exact ⟨Decidable.not_not.1 h4, h, ((chkK_iff l).1 (Decidable.not_not.1 h4)).1⟩
  have HE1 : Hid (allE l (chk nameF n) ≠ 0 → putE l n p = allE l (chk nameF n) ∧ putA l n p = []) := fun h => by
    have hE : putE l n p = allE l (chk nameF n) := if_pos h
    exact ⟨hE, by unfold putA; rw [hE, if_neg h]⟩
  have HE2 : Hid (allE l (chk nameF n) = 0 → 200 < p.size ∨ 16 < (putL l n p).length → putE l n p = 2 ∧ putA l n p = []) := fun h h2 => by
    have hE : putE l n p = 2 := by
      unfold putE
      rw [if_neg (by simp [h])]
      split
      · rfl
      · rw [if_pos (by omega)]
    exact ⟨hE, by unfold putA; rw [hE]; rfl⟩
  have HE3 : Hid (allE l (chk nameF n) = 0 → p.size ≤ 200 → (putL l n p).length ≤ 16 → putE l n p = 0 ∧ putA l n p = putL l n p) := fun h h2 h3 => by
    have hE : putE l n p = 0 := by
      unfold putE
      rw [if_neg (by simp [h]), if_neg (by omega), if_neg (by omega)]
    exact ⟨hE, by unfold putA; rw [hE]; rfl⟩
  have hA := List.length_filter_le (ltT n) l
  have hG := List.length_filter_le (gtT n) l
  have hM : (putM l n p).length ≤ 1 := by unfold putM; split <;> simp
  have HM0 : Hid (p = ⟨#[]⟩ → putM l n p = []) := fun h => if_pos h
  have HM1 : Hid (p ≠ ⟨#[]⟩ → putM l n p = [⟨n, p, nextV l n⟩]) := fun h => if_neg h
  have HPL : Hid (putL l n p = l.filter (ltT n) ++ putM l n p ++ l.filter (gtT n)) := rfl
  clear hl hm
  generalize putE l n p = PE at *
  generalize putA l n p = PA at *
  generalize putL l n p = PL at *
  generalize putM l n p = PM at *
  generalize l.filter (ltT n) = LT at *
  generalize l.filter (gtT n) = GT at *
  generalize nextV l n = NV at *
  generalize allE l (chk nameF n) = A at *
  generalize chk nameF n = N at *
  have hz : (w.alloc (.cells #[.string n] 9)).heap[w.heap.size]? = some (.cells #[.string n] 9 (0, 0)) := Go.heap_alloc_new w _
  have HI : Hid (Pt w n [] (.slice none 0 0) (w.alloc (.cells #[.string n] 9))) := ⟨HB.out, hz, World.ownsRow_nil _ _ _ _⟩
  have q0 := HI.out.cell
  clear hz
  go_enter Tryd.func5, Tryd.ntmps5
  go_wp2_with fail
  refine (C1.out _ HB.out).mono ?_
  rintro e w1 ⟨rfl, hb1⟩
  have HI1 := hide (HI.out.step hb1)
  clear hb1 C1 q0 HI HB
  go_wp2_with fail
  refine (C2.out _ HI1.out.bel).mono ?_
  rintro e w2 ⟨rfl, hb2⟩
  have HI2 := hide (HI1.out.step hb2)
  clear hb2 C2 HI1
  by_cases h1 : A = 0
  · have h1' : (A != 0) = false := by simp [h1]
    obtain ⟨hc, hN, h16⟩ := HC0.out h1
    have C3 := hide (C3.out hc)
    have C4 := hide (C4.out hc)
    have C5 := hide (C5.out hc)
    have C6 := hide (C6.out hN)
    have HE2 := hide (HE2.out h1)
    have HE3 := hide (HE3.out h1)
    clear h1 hc hN HE1 HC0
    by_cases h2 : (200 : Int) < p.size
    · obtain ⟨x1, x2⟩ := HE2.out (.inl (by omega))
      subst x1 x2
      have HB2 := hide HI2.out.bel
      clear C3 C4 C5 C6 HE2 HE3 HI2
      go_wp2
      go_ret2
      exact ⟨_, rfl, World.ownsRow_nil _ _ _ _, HB2.out⟩
    · have C6 := hide (C6.out (by omega))
      have HE3 := hide (HE3.out (by omega))
      have HE2 : Hid (16 < PL.length → PE = 2 ∧ PA = []) := fun h => HE2.out (.inr h)
      have C := hide (C3.out w2 HI2.out.bel HI2.out.cell HI2.out.lt)
      clear C3
      go_wp2_with fail
      refine C.out.mono ?_
      intro e w3 h3
      obtain ⟨v, rfl, hown, hb3⟩ := h3
      obtain ⟨aa, ca, rfl⟩ := kown_form hown
      have HI3 : Hid (Pt w n LT (.slice aa LT.length ca) w3) := ⟨(HI2.out.step hb3).bel, (HI2.out.step hb3).box, kown_mono hown HI2.out.bel.size⟩
      clear hown hb3 C HI2
      obtain ⟨T, hT⟩ : ∃ T, (p.toList == []) = T := ⟨_, rfl⟩
      have HT := hide hT
      go_upto_if 24 with fail
      clear hT
      go_cut [9] (fun x wr => ∃ (ab : Option Addr) (cb : Nat), x = .slice ab (LT ++ PM).length cb ∧ Hid (Pt w n (LT ++ PM) (.slice ab (LT ++ PM).length cb) wr))
      case first =>
        cases T with
        | true =>
          have h4 : p = ⟨#[]⟩ := by
            have := HT.out
            by_cases h : p = ⟨#[]⟩
            · exact h
            · rw [txt_no (l := []) h] at this; cases this
          obtain rfl := HM0.out h4
          clear h4
          go_wp2_with fail
          go_meet
          case rel => exact ⟨aa, ca, by simp, by rw [List.append_nil]; exact HI3.out⟩
        | false =>
          have h4 : p ≠ ⟨#[]⟩ := fun h => by
            have := HT.out
            rw [txt_yes (l := []) h] at this; cases this
          obtain rfl := HM1.out h4
          have q3 := HI3.out.cell
          have hlt := HI3.out.lt
          have hne : w.heap.size ≠ w3.heap.size := by omega
          have HL100 : Hid (LT.length ≤ 100) := by show _ ≤ _; omega
          clear h4
          go_wp2_with fail
          go_region_held3 (fun w' => w'.cell? ⟨w.heap.size, 0, none⟩ = some (.string n)) (go_keep)
            (first
              | (go_at_call 21; refine (C5.out _ HI3.out.drew.bel).mono ?_; rintro e wa ⟨rfl, hba⟩; have IA := HI3.out.drew.step hba; have j0 := IA.cell; have hlta := IA.lt; have hnea : w.heap.size ≠ wa.heap.size := (by omega))
              | (go_at_call 20; refine (C6.out _).mono ?_; rintro e wb ⟨rfl, hbb⟩; have IB := IA.step hbb; have i0 := IB.cell; have hltb := IB.lt; have hneb : w.heap.size ≠ wb.heap.size := (by omega); have hsb := IB.bel.size)
              | (refine stepK (w := w) (n := n) (L := LT) (by rfl) _ _ (by rfl) (by rfl) _ (by rfl) (IB.step ((Below.refl _ wb).alloc (Nat.le_refl _) _)) ⟨n, p, NV⟩ (kblk1 rfl) HL100.out ?_; intro g cap wz IZ; have k0 := IZ.cell)
              | fail)
          all_goals
            go_wp2_with fail
            go_meet
            case rel => exact ⟨some ⟨g, 0, none⟩, cap, by rw [List.length_append]; rfl, by rw [List.length_append]; exact IZ⟩
      case rest =>
        obtain ⟨ab, cb, rfl, HX⟩ := hcut
        clear HI3 C5 C6 HM0 HM1
        have hXl : (LT ++ PM).length ≤ 17 := by rw [List.length_append]; omega
        have HPX : Hid (PL = (LT ++ PM) ++ GT) := HPL.out
        clear HPL
        generalize LT ++ PM = X at *
        have C := hide (C4.out _ HX.out.bel HX.out.cell HX.out.lt)
        clear C4
        go_wp2_with fail
        refine C.out.mono ?_
        intro e w4 h4
        obtain ⟨v, rfl, hown, hb4⟩ := h4
        obtain ⟨ad, cd, rfl⟩ := kown_form hown
        have HX4 := hide (HX.out.step hb4)
        have hs4 := HX4.out.bel.size
        have HG4 := hide hown
        clear hown hb4 C HX
        by_cases hG0 : GT = []
        · have HPX : Hid (PL = X) := by have := HPX.out; rw [hG0, List.append_nil] at this; exact this
          have hgl : GT.length = 0 := by rw [hG0]; rfl
          rw [hgl]
          have hrun := kappend_zero w4 ab X.length cb (krow_form HX4.out.row) ad cd
          have HRUN := hide hrun
          clear hrun hG0 HG4 hgl
          by_cases h5 : (16 : Int) < X.length
          · obtain ⟨x1, x2⟩ := HE2.out (by rw [HPX.out]; omega)
            subst x1 x2
            go_wp2_with (at_builtin; refine wpList_append_none rfl _ _ 22 rfl _ _ rfl rfl HRUN.out ?_)
            go_ret2
            exact ⟨_, rfl, World.ownsRow_nil _ _ _ _, HX4.out.bel⟩
          · obtain ⟨x1, x2⟩ := HE3.out (by rw [HPX.out]; omega)
            subst x1
            have HX2 := hide (x2.trans HPX.out)
            clear x2
            go_wp2_with (at_builtin; refine wpList_append_none rfl _ _ 22 rfl _ _ rfl rfl HRUN.out ?_)
            go_ret2
            exact ⟨_, rfl, by rw [HX2.out]; exact HX4.out.row, HX4.out.bel⟩
        · have hgp : 0 < GT.length := List.length_pos_iff.2 hG0
          obtain ⟨g3, rfl⟩ : ∃ g3, ad = some ⟨g3, 0, none⟩ := by
            rcases krow_form HG4.out with ⟨_, h, _⟩ | ⟨g, h, _⟩
            · omega
            · exact ⟨g, h⟩
          have HNW := hide (krow_news HG4.out)
          clear hG0 HG4
          go_wp2_with (at_builtin; refine wpList_append_lies _ rfl _ _ 22 rfl w.heap.size 27 i0 _ 3 40 Tryd.underlying22 hi hz0 hz1 hz2 rfl (by decide) _ _ _ rfl HX4.out.row ⟨g3, 0, none⟩ GT.length cd (kpCells GT) rfl (kpCells_len GT) HNW.out (kpCells_one GT) hgp (by unfold maxLen; omega) (by omega) (by omega) _ rfl ?_)
          intro g cap w5 hown hgrow hat hg
          have HX5 : Hid (Pt w n (X ++ GT) (.slice (some ⟨g, 0, none⟩) (X.length + GT.length) cap) w5) := Pt.grown HX4.out hgrow (by rw [kpCells_append, List.length_append]; exact hown)
          clear hown hgrow hat hg HNW HX4
          by_cases h5 : (16 : Int) < X.length + GT.length
          · obtain ⟨x1, x2⟩ := HE2.out (by rw [HPX.out, List.length_append]; omega)
            subst x1 x2
            go_wp2
            go_ret2
            exact ⟨_, rfl, World.ownsRow_nil _ _ _ _, HX5.out.bel⟩
          · obtain ⟨x1, x2⟩ := HE3.out (by rw [HPX.out, List.length_append]; omega)
            subst x1
            have HX2 := hide (x2.trans HPX.out)
            clear x2
            go_wp2
            go_ret2
            exact ⟨_, rfl, by rw [HX2.out]; exact HX5.out.row, HX5.out.bel⟩
  · have h1' : (A != 0) = true := by simp [h1]
    obtain ⟨x1, x2⟩ := HE1.out h1
    subst x1 x2
    have HB2 := hide HI2.out.bel
    clear C3 C4 C5 C6 HE1 HE2 HE3 HI2 h1 HC0
    go_wp2
    go_ret2
    exact ⟨_, rfl, World.ownsRow_nil _ _ _ _, HB2.out⟩
end Go.Proofs.YtcldjoklkbbbgadDoor
