/-
  dragomanref.ListOf, PutOf: what they answer.
-/
import Derived.Test.YtcldjoklkbbbgadDoorKeepRef
namespace Go.Proofs.YtcldjoklkbbbgadDoor
open Go.RowKit Go.PlainAid

/-- a box, and a row that grows -/
structure Px (w : World) (b : Nat) (o : Obj) (L : List Kp) (v : Value) (W : World) : Prop where
  bel : Below w.heap.size w W
  box : W.heap[b]? = some o
  nb : v.ownBlock ≠ some b
  row : W.ownsRow w.heap.size 27 3 v L.length (kpCells L)
theorem Px.step {w : World} {b : Nat} {o : Obj} {L : List Kp} {v : Value} {W W' : World} (h : Px w b o L v W) (hb : Below W.heap.size W W') : Px w b o L v W' :=
  ⟨h.bel.trans (hb.mono h.bel.size), (hb.block _ (Array.getElem?_eq_some_iff.1 h.box).1).trans h.box, h.nb, kown_below h.row hb⟩
theorem Px.alloc {w : World} {b : Nat} {o : Obj} {L : List Kp} {v : Value} {W : World} (h : Px w b o L v W) (x : Obj) : Px w b o L v (W.alloc x) := h.step ((Below.refl _ W).alloc (Nat.le_refl _) x)
theorem Px.lt {w : World} {b : Nat} {o : Obj} {L : List Kp} {v : Value} {W : World} (h : Px w b o L v W) : b < W.heap.size := (Array.getElem?_eq_some_iff.1 h.box).1
theorem Px.cell {w : World} {b : Nat} {c : Array Value} {t : TypeId} {L : List Kp} {v : Value} {W : World} (h : Px w b (.cells c t (0, 0)) L v W) (i : Nat) : W.cell? ⟨b, i, none⟩ = c[i]? := Lib.cell_of_heap h.box i
theorem drewN_below (W : World) (m : Nat) : Below W.heap.size W (W.drewN m) := ⟨rfl, rfl, rfl, Nat.le_refl _, fun _ _ => rfl⟩

section
variable {ops : Array Oper} {rest : List Oper} {o : Oper} {a : Act} {Q : Exit → Act → World → Prop} {w W : World} {b : Nat} {bo : Obj} {L : List Kp} {va : Value}
theorem wpK (hgd : o.guard = none) (x y : Operand) (ho : o.op = .call { callee := .builtin .append, args := #[x, y], argTypes := #[22, 22] })
    (hx : a.eval x = va) (B : Nat) (hy : a.eval y = .slice (some ⟨B, 0, none⟩) 1 1) (hI : Px w b bo L va W) (k : Kp) (hB : W.heap[B]? = some (.cells #[.string k.topic, .string k.payload, .int .i64 k.ver] 27 (0, 0))) (hL : L.length ≤ 100)
    (h : ∀ g cap W', Px w b bo (L ++ [k]) (.slice (some ⟨g, 0, none⟩) (L.length + 1) cap) W' → wpList Tryd.prog ops Q rest (a.put o.dst (.slice (some ⟨g, 0, none⟩) (L.length + 1) cap)) W') :
    wpList Tryd.prog ops Q (o :: rest) a W := by
  obtain ⟨i0, hi, hz0, hz1, hz2⟩ := info_parts (show (Tryd.prog.info? 27).map (fun i => (i.zero, i.size, i.bytes)) = some (some (.agg #[.string ⟨#[]⟩, .string ⟨#[]⟩, .int .i64 0]), 3, 40) by kernel_rfl)
  refine wpList_append_lies W hgd x y 22 ho w.heap.size 27 i0 _ 3 40 Tryd.underlying22 hi hz0 hz1 hz2 rfl (by decide) va L.length _ hx hI.row ⟨B, 0, none⟩ 1 1 [.string k.topic, .string k.payload, .int .i64 k.ver] hy rfl (World.news_of_block hB) (by simp [Value.oneCell']) (by decide) (by unfold maxLen; omega) (by omega) hI.bel.size _ rfl ?_
  intro g cap W' hown hgrow hat hlt
  refine h g cap W' ⟨Below.grown hI.bel hgrow hI.bel.size (fun g hg' => (kown_at hI.row hg').1), ?_, ?_, by rw [kpCells_append, List.length_append]; exact hown⟩
  · rw [hgrow.block _ hI.lt (fun e => hI.nb e.symm)]
    exact hI.box
  · intro e
    simp only [Value.ownBlock, Option.some.injEq] at e
    subst e
    rcases hat with h1 | h1
    · exact hI.nb h1
    · have := hI.lt; omega
end

theorem wpRow {ops : Array Oper} {rest : List Oper} {o : Oper} {a : Act} {Q : Exit → Act → World → Prop} {w W : World} {L : List Kp} {va : Value} (hgd : o.guard = none) (x y : Operand) (ho : o.op = .call { callee := .builtin .append, args := #[x, y], argTypes := #[22, 22] })
    (hx : a.eval x = va) (B : Nat) (hy : a.eval y = .slice (some ⟨B, 0, none⟩) 1 1) (hR : W.ownsRow w.heap.size 27 3 va L.length (kpCells L)) (hb : Below w.heap.size w W) (k : Kp) (hB : W.heap[B]? = some (.cells #[.string k.topic, .string k.payload, .int .i64 k.ver] 27 (0, 0))) (hL : L.length ≤ 100)
    (h : ∀ g cap W', W'.ownsRow w.heap.size 27 3 (.slice (some ⟨g, 0, none⟩) (L.length + 1) cap) (L.length + 1) (kpCells (L ++ [k])) → Below w.heap.size w W' → wpList Tryd.prog ops Q rest (a.put o.dst (.slice (some ⟨g, 0, none⟩) (L.length + 1) cap)) W') :
    wpList Tryd.prog ops Q (o :: rest) a W := by
  obtain ⟨i0, hi, hz0, hz1, hz2⟩ := info_parts (show (Tryd.prog.info? 27).map (fun i => (i.zero, i.size, i.bytes)) = some (some (.agg #[.string ⟨#[]⟩, .string ⟨#[]⟩, .int .i64 0]), 3, 40) by kernel_rfl)
  refine wpList_append_lies W hgd x y 22 ho w.heap.size 27 i0 _ 3 40 Tryd.underlying22 hi hz0 hz1 hz2 rfl (by decide) va L.length _ hx hR ⟨B, 0, none⟩ 1 1 [.string k.topic, .string k.payload, .int .i64 k.ver] hy rfl (World.news_of_block hB) (by simp [Value.oneCell']) (by decide) (by unfold maxLen; omega) (by omega) hb.size _ rfl ?_
  intro g cap W' hown hgrow hat hlt
  exact h g cap W' (by rw [kpCells_append]; exact hown) (Below.grown hb hgrow hb.size (fun g hg' => (kown_at hR hg').1))

theorem name_hash {s : ByteArray} (h : chk nameF s = 0) : ∀ x ∈ LV s, x ≠ ⟨#[35]⟩ := fun x hx e => by
  have := name_levels h x hx
  rw [e] at this
  exact absurd this (by decide +kernel)

set_option maxHeartbeats 4000000 in
set_option maxRecDepth 100000 in
theorem listOf_any (l : List Kp) (n : ByteArray) (ao : Option Addr) (co : Nat) (w : World) (hl : KpsIn w ao l) (hc : chkK l = 0) (hf : chk filtF n = 0) :
    Calls Tryd.prog 12 #[.slice ao l.length co, .string n] w (KRow w (l.filter (forT n))) := by
  have h16 := ((chkK_iff l).1 hc).1
  have hall := ((chkK_iff l).1 hc).2.1
  have CF : Hid (∀ k (h : k < l.length) W, Calls Tryd.prog 31 #[.string n, .string l[k].topic] W fun e w' => e = .returned (.bool (forT n l[k])) ∧ Below W.heap.size W w') := fun k h W => by
    have hn := (chkO_topic (hall _ (List.getElem_mem h))).1
    have hg := good_name hn
    have := isFor_any n l[k].topic W (by have := (chk_ok hf).1; omega) (by have := (chk_ok hn).1; omega) (name_hash hn)
    rwa [← matchB_ok hf hn] at this
  generalize hR : l.filter (forT n) = R
  have HR0 := hide hR
  have HL := hide hl
  clear hR hl hc hf hall
  go_enter Tryd.func12, Tryd.ntmps12
  go_wp2
  go_loopw [5, 6] (fun a i wr => ∃ (k : Nat) (aa : Option Addr) (ca : Nat), k ≤ l.length ∧ i = .int .i64 k ∧ a = .slice aa ((l.take k).filter (forT n)).length ca ∧ Hid (Below w.heap.size w wr ∧ wr.ownsRow w.heap.size 27 3 (.slice aa ((l.take k).filter (forT n)).length ca) ((l.take k).filter (forT n)).length (kpCells ((l.take k).filter (forT n))))) (fun _ i _ => l.length - (intOf i).toNat)
  case atStart => exact ⟨0, none, 0, by omega, rfl, rfl, Below.refl _ _, World.ownsRow_nil _ _ _ _⟩
  case round =>
    obtain ⟨k, aa, ca, hk, rfl, rfl, HR⟩ := hrel
    have hsz := HR.out.1.size
    by_cases hlt : k < l.length
    · obtain ⟨b, o, rfl, hb, hcell⟩ := kps_here (HL.out.below HR.out.1) hlt
      obtain ⟨hk1, hk2, hk3⟩ := hcell k hlt
      have C := hide (CF.out k hlt)
      have HSN := hide (filter_snoc (forT n) l k hlt)
      have hle : ((l.take k).filter (forT n)).length ≤ 16 := Nat.le_trans (List.length_filter_le _ _) (by rw [List.length_take]; omega)
      have hbz : b < wr.heap.size := hb
      clear hcell HL
      generalize forT n l[k] = Y at *
      generalize hkk : l[k] = x at *
      clear hkk
      generalize (l.take k).filter (forT n) = X at *
      obtain ⟨t, p, v⟩ := x
      simp only at hk1 hk2 hk3 C HSN
      go_wp2_with fail
      refine (C.out _).mono ?_
      rintro e w1 ⟨rfl, hb1⟩
      have HB1 := hide (HR.out.1.trans (hb1.mono hsz))
      have HO1 := hide (kown_below HR.out.2 hb1)
      have g1 := (hb1.cell (p := ⟨b, _, none⟩) hb).trans hk1
      have g2 := (hb1.cell (p := ⟨b, _, none⟩) hb).trans hk2
      have g3 := (hb1.cell (p := ⟨b, _, none⟩) hb).trans hk3
      clear hb1 hk1 hk2 hk3 C
      cases Y with
      | false =>
        have HQ : Hid ((l.take (k + 1)).filter (forT n) = X) := by show _ = _; have := HSN.out; simpa using this
        go_wp2
        go_round
        case rel => exact ⟨k + 1, aa, ca, by omega, by go_num, by rw [HQ.out], HB1.out, by rw [HQ.out]; exact HO1.out⟩
        case measure => simp [intOf]; omega
      | true =>
        have HQ : Hid ((l.take (k + 1)).filter (forT n) = X ++ [⟨t, p, v⟩]) := by show _ = _; have := HSN.out; simpa using this
        have HW : Hid ((w1.alloc (.cells #[.string t, .string p, .int .i64 v] 27)).ownsRow w.heap.size 27 3 (.slice aa X.length ca) X.length (kpCells X) ∧ Below w.heap.size w (w1.alloc (.cells #[.string t, .string p, .int .i64 v] 27))) := ⟨HO1.out.alloc _, HB1.out.alloc HB1.out.size _⟩
        have HBK : Hid ((w1.alloc (.cells #[.string t, .string p, .int .i64 v] 27)).heap[w1.heap.size]? = some (.cells #[.string t, .string p, .int .i64 v] 27 (0, 0))) := Go.heap_alloc_new w1 _
        go_wp2_with (at_builtin; refine wpRow rfl _ _ rfl rfl w1.heap.size rfl HW.out.1 HW.out.2 ⟨t, p, v⟩ HBK.out (by omega) ?_)
        intro g cap w3 hown hbel
        have HO3 := hide hown
        have HB3 := hide hbel
        clear hown hbel
        go_wp2
        go_round
        case rel => exact ⟨k + 1, some ⟨g, 0, none⟩, cap, by omega, by go_num, by rw [HQ.out, List.length_append]; rfl, HB3.out, by rw [HQ.out, List.length_append]; exact HO3.out⟩
        case measure => simp [intOf]; omega
    · have hke : l.take k = l := List.take_of_length_le (by omega)
      rw [hke, HR0.out] at HR ⊢
      clear hke
      go_wp2
      go_ret
      exact ⟨_, rfl, HR.out.2, HR.out.1⟩

/-- those behind one stand behind it -/
theorem pair_lt {l : List Kp} (h : l.Pairwise (fun x y => tless x.topic y.topic = true)) {k : Nat} (hk : k < l.length) : ∀ x ∈ l.take k, tless x.topic l[k].topic = true := fun x hx => by
  obtain ⟨i, hi, rfl⟩ := List.mem_iff_getElem.1 hx
  have hi' : i < k := by simp at hi; omega
  rw [List.getElem_take]
  exact List.pairwise_iff_getElem.1 h i k (by omega) hk hi'
theorem gt_none {l : List Kp} (h : l.Pairwise (fun x y => tless x.topic y.topic = true)) {n : ByteArray} {k : Nat} (hk : k < l.length) (hn : tless l[k].topic n = true) : (l.take k).filter (gtT n) = [] :=
  List.filter_eq_nil_iff.2 fun x hx hg => by
    have h1 := tl_trans (pair_lt h hk x hx) hn
    have h2 : tless n x.topic = true := hg
    rw [tl_asymm h1] at h2
    cases h2
theorem by_none {l : List Kp} (h : l.Pairwise (fun x y => tless x.topic y.topic = true)) {n : ByteArray} {k : Nat} (hk : k < l.length) (hn : l[k].topic = n) : byT (l.take k) n = [] :=
  List.filter_eq_nil_iff.2 fun x hx hg => by
    have h1 := pair_lt h hk x hx
    rw [hn] at h1
    exact tl_ne h1 (of_decide_eq_true hg)
theorem nextV_yes {l : List Kp} (h : l.Pairwise (fun x y => tless x.topic y.topic = true)) {n : ByteArray} {k : Nat} (hk : k < l.length) (hn : l[k].topic = n) : nextV (l.take (k + 1)) n = min (l[k].ver + 1) 16777215 := by
  have e : byT (l.take (k + 1)) n = [l[k]] := by
    unfold byT
    rw [filter_snoc (isT n) l k hk, show (l.take k).filter (isT n) = [] from by_none h hk hn]
    simp [isT, hn]
  unfold nextV
  rw [e]
theorem nextV_no {l : List Kp} {n : ByteArray} {k : Nat} (hk : k < l.length) (hn : l[k].topic ≠ n) : nextV (l.take (k + 1)) n = nextV (l.take k) n := by
  have e : byT (l.take (k + 1)) n = byT (l.take k) n := by
    unfold byT
    rw [filter_snoc (isT n) l k hk]
    simp [isT, hn]
  unfold nextV
  rw [e]

/-- what has come out so far, and whether it was put -/
def outK (l : List Kp) (n p : ByteArray) (k : Nat) : List Kp := (l.take k).filter (ltT n) ++ (if (l.take k).filter (gtT n) = [] then [] else putM l n p) ++ (l.take k).filter (gtT n)
def putK (l : List Kp) (n p : ByteArray) (k : Nat) : Bool := decide (p = ⟨#[]⟩) || decide ((l.take k).filter (gtT n) ≠ [])
theorem outK_zero (l : List Kp) (n p : ByteArray) : outK l n p 0 = [] := by simp [outK]
theorem putK_zero (l : List Kp) (n p : ByteArray) : putK l n p 0 = decide (p = ⟨#[]⟩) := by simp [putK]
theorem outK_eq {l : List Kp} {n p : ByteArray} {k : Nat} (hk : k < l.length) (hn : l[k].topic = n) : outK l n p (k + 1) = outK l n p k ∧ putK l n p (k + 1) = putK l n p k := by
  have e1 := filter_snoc (ltT n) l k hk
  have e2 := filter_snoc (gtT n) l k hk
  simp only [ltT, gtT, hn, tl_irrefl, Bool.false_eq_true, if_false, List.append_nil] at e1 e2
  unfold outK putK
  constructor
  · rw [show (l.take (k + 1)).filter (ltT n) = (l.take k).filter (ltT n) from e1, show (l.take (k + 1)).filter (gtT n) = (l.take k).filter (gtT n) from e2]
  · rw [show (l.take (k + 1)).filter (gtT n) = (l.take k).filter (gtT n) from e2]
theorem outK_lt {l : List Kp} (h : l.Pairwise (fun x y => tless x.topic y.topic = true)) {n p : ByteArray} {k : Nat} (hk : k < l.length) (hn : tless l[k].topic n = true) : outK l n p (k + 1) = outK l n p k ++ [l[k]] ∧ putK l n p (k + 1) = putK l n p k := by
  have e0 := gt_none h hk hn
  have e1 := filter_snoc (ltT n) l k hk
  have e2 := filter_snoc (gtT n) l k hk
  rw [show ltT n l[k] = true from hn, if_pos rfl] at e1
  rw [show gtT n l[k] = false from tl_asymm hn, if_neg (by simp), e0] at e2
  unfold outK putK
  rw [e0, e2, e1]
  simp
theorem outK_gt {l : List Kp} {n p : ByteArray} {k : Nat} (hk : k < l.length) (hn : tless n l[k].topic = true) : (putK l n p k = true → outK l n p (k + 1) = outK l n p k ++ [l[k]]) ∧ (putK l n p k = false → outK l n p (k + 1) = (outK l n p k ++ [⟨n, p, nextV l n⟩]) ++ [l[k]]) ∧ putK l n p (k + 1) = true := by
  have e1 := filter_snoc (ltT n) l k hk
  have e2 := filter_snoc (gtT n) l k hk
  rw [show ltT n l[k] = false from tl_asymm hn, if_neg (by simp), List.append_nil] at e1
  rw [show gtT n l[k] = true from hn, if_pos rfl] at e2
  unfold outK putK
  rw [e1, e2]
  generalize (l.take k).filter (gtT n) = G
  generalize (l.take k).filter (ltT n) = L
  refine ⟨fun h => ?_, fun h => ?_, by simp⟩
  · simp only [Bool.or_eq_true, decide_eq_true_eq] at h
    rw [if_neg (by simp)]
    by_cases hG : G = []
    · have hp : p = ⟨#[]⟩ := by rcases h with h | h; exact h; exact absurd hG h
      rw [if_pos hG, hG]
      unfold putM
      rw [if_pos hp]
      simp
    · rw [if_neg hG]
      simp
  · simp only [Bool.or_eq_false_iff, decide_eq_false_iff_not] at h
    obtain ⟨h1, h2⟩ := h
    have hG : G = [] := Decidable.not_not.1 h2
    rw [if_neg (by simp), if_pos hG, hG]
    unfold putM
    rw [if_neg h1]
    simp
theorem outK_end (l : List Kp) (n p : ByteArray) : (putK l n p l.length = true → outK l n p l.length = putL l n p) ∧ (putK l n p l.length = false → outK l n p l.length ++ [⟨n, p, nextV l n⟩] = putL l n p) := by
  unfold outK putK putL
  rw [List.take_length]
  generalize l.filter (gtT n) = G
  generalize l.filter (ltT n) = L
  refine ⟨fun h => ?_, fun h => ?_⟩
  · simp only [Bool.or_eq_true, decide_eq_true_eq] at h
    by_cases hG : G = []
    · have hp : p = ⟨#[]⟩ := by rcases h with h | h; exact h; exact absurd hG h
      rw [if_pos hG]
      unfold putM
      rw [if_pos hp]
    · rw [if_neg hG]
  · simp only [Bool.or_eq_false_iff, decide_eq_false_iff_not] at h
    obtain ⟨h1, h2⟩ := h
    have hG : G = [] := Decidable.not_not.1 h2
    rw [if_pos hG, hG]
    unfold putM
    rw [if_neg h1]
    simp
theorem outK_len (l : List Kp) (n p : ByteArray) (k : Nat) : (outK l n p k).length ≤ 2 * l.length + 1 := by
  unfold outK
  have h1 : ((l.take k).filter (ltT n)).length ≤ l.length := Nat.le_trans (List.length_filter_le _ _) (by rw [List.length_take]; omega)
  have h2 : ((l.take k).filter (gtT n)).length ≤ l.length := Nat.le_trans (List.length_filter_le _ _) (by rw [List.length_take]; omega)
  have h3 : (if (l.take k).filter (gtT n) = [] then [] else putM l n p).length ≤ 1 := by
    split
    · simp
    · unfold putM; split <;> simp
  simp only [List.length_append]
  omega
end Go.Proofs.YtcldjoklkbbbgadDoor
