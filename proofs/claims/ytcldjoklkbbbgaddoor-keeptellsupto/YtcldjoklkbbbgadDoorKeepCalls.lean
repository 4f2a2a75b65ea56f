/-
  The function literals of keep, by, nextVersion, Get, List: what they answer.
-/
import Derived.Test.YtcldjoklkbbbgadDoorKeepThose
namespace Go.Proofs.YtcldjoklkbbbgadDoor
open Go.RowKit Go.PlainAid

set_option maxHeartbeats 1000000 in
theorem lit_lt (k : Kp) (c : Nat) (n : ByteArray) (w : World) (hc : w.cell? ⟨c, 0, none⟩ = some (.string n)) (hz : c < w.heap.size) : Calls Tryd.prog 19 #[kpV k, .pointer (some ⟨c, 0, none⟩)] w fun e w' => e = .returned (.bool (ltT n k)) ∧ Below w.heap.size w w' := by
  obtain ⟨t, p, v⟩ := k
  simp only [kpV, ltT, tless]
  have HB := hide ((Below.refl w.heap.size w).alloc (Nat.le_refl _) (.cells #[.string t, .string p, .int .i64 v] 27))
  have hne : c ≠ w.heap.size := by omega
  go_enter Tryd.func19, Tryd.ntmps19
  go_wp2
  go_ret
  exact ⟨rfl, HB.out⟩
set_option maxHeartbeats 1000000 in
theorem lit_gt (k : Kp) (c : Nat) (n : ByteArray) (w : World) (hc : w.cell? ⟨c, 0, none⟩ = some (.string n)) (hz : c < w.heap.size) : Calls Tryd.prog 22 #[kpV k, .pointer (some ⟨c, 0, none⟩)] w fun e w' => e = .returned (.bool (gtT n k)) ∧ Below w.heap.size w w' := by
  obtain ⟨t, p, v⟩ := k
  simp only [kpV, gtT]
  have HB := hide ((Below.refl w.heap.size w).alloc (Nat.le_refl _) (.cells #[.string t, .string p, .int .i64 v] 27))
  have hne : c ≠ w.heap.size := by omega
  have HT : Hid ((!(Op.bytesLess t.toList n.toList || t.toList == n.toList)) = tless n t) := by show _ = _; rw [leq_not]; simp
  go_enter Tryd.func22, Tryd.ntmps22
  go_wp2
  go_ret
  exact ⟨by rw [← HT.out]; first | rfl | simp, HB.out⟩
set_option maxHeartbeats 1000000 in
theorem lit_by (k : Kp) (c : Nat) (n : ByteArray) (w : World) (hc : w.cell? ⟨c, 0, none⟩ = some (.string n)) (hz : c < w.heap.size) : Calls Tryd.prog 39 #[kpV k, .pointer (some ⟨c, 0, none⟩)] w fun e w' => e = .returned (.bool (isT n k)) ∧ Below w.heap.size w w' := by
  obtain ⟨t, p, v⟩ := k
  simp only [kpV, isT]
  have HB := hide ((Below.refl w.heap.size w).alloc (Nat.le_refl _) (.cells #[.string t, .string p, .int .i64 v] 27))
  have hne : c ≠ w.heap.size := by omega
  have HT := hide (txt_eq t n)
  go_enter Tryd.func39, Tryd.ntmps39
  go_wp2
  go_ret
  exact ⟨by rw [← HT.out]; rfl, HB.out⟩
def forT (n : ByteArray) (k : Kp) : Bool := matchB n k.topic
set_option maxHeartbeats 1000000 in
theorem lit_for (k : Kp) (c : Nat) (n : ByteArray) (w : World) (hc : w.cell? ⟨c, 0, none⟩ = some (.string n)) (hz : c < w.heap.size) (hm : Max w) : Calls Tryd.prog 25 #[kpV k, .pointer (some ⟨c, 0, none⟩)] w fun e w' => e = .returned (.bool (forT n k)) ∧ Below w.heap.size w w' := by
  obtain ⟨t, p, v⟩ := k
  simp only [kpV, forT]
  have HB := hide ((Below.refl w.heap.size w).alloc (Nat.le_refl _) (.cells #[.string t, .string p, .int .i64 v] 27))
  have hne : c ≠ w.heap.size := by omega
  have C : Hid (∀ W, Below w.heap.size w W → Calls Tryd.prog 26 #[.string n, .string t] W fun e w' => e = .returned (.tuple #[.bool (matchB n t), .int .i64 (matchE n t)]) ∧ Below W.heap.size W w') := fun W h => match_any n t W (hm.below h)
  clear hm
  generalize matchB n t = B at *
  generalize matchE n t = E at *
  go_enter Tryd.func25, Tryd.ntmps25
  go_wp2_with fail
  refine (C.out _ HB.out).mono ?_
  rintro e w1 ⟨rfl, hb1⟩
  have HB1 := hide (below_step HB.out hb1)
  clear hb1
  go_wp2
  go_ret
  exact ⟨rfl, HB1.out⟩

/-- small enough to be copied -/
def Small (l : List Kp) : Prop := ∀ k ∈ l, k.topic.size ≤ 281474976710656 ∧ k.payload.size ≤ 281474976710656
theorem small_of {l : List Kp} (h : chkK l = 0) : Small l := fun k hk => by
  obtain ⟨h1, _, h3, _⟩ := chkO_topic (((chkK_iff l).1 h).2.1 k hk)
  have := (chk_ok h1).1
  omega
theorem box_cell (w : World) (n : ByteArray) : (w.alloc (.cells #[.string n] 9)).cell? ⟨w.heap.size, 0, none⟩ = some (.string n) := Lib.cell_of_heap (Go.heap_alloc_new w _) 0
theorem KRow.up {w W : World} {L : List Kp} {e : Ending} {w' : World} (h : KRow W L e w') (hb : Below w.heap.size w W) : KRow w L e w' := by
  obtain ⟨v, he, hown, hbl⟩ := h
  exact ⟨v, he, kown_mono hown hb.size, hb.trans (hbl.mono hb.size)⟩

set_option maxHeartbeats 1000000 in
theorem kby_any (l : List Kp) (n : ByteArray) (ao : Option Addr) (co : Nat) (w : World) (hl : KpsIn w ao l) (hn : l.length ≤ 16) (hs : Small l) :
    Calls Tryd.prog 23 #[.slice ao l.length co, .string n] w (KRow w (byT l n)) := by
  have HB := hide ((Below.refl w.heap.size w).alloc (Nat.le_refl _) (.cells #[.string n] 9))
  have C : Hid (Calls Tryd.prog 18 #[.slice ao l.length co, .func (.func 39) #[] #[.pointer (some ⟨w.heap.size, 0, none⟩)]] (w.alloc (.cells #[.string n] 9)) (KRow (w.alloc (.cells #[.string n] 9)) (byT l n))) :=
    those_by w.heap.size (isT n) l ao co _ (hl.below HB.out) hn hs fun k W hW => lit_by k w.heap.size n W ((hW.cell (p := ⟨w.heap.size, 0, none⟩) (by simp)).trans (box_cell w n)) (Nat.lt_of_lt_of_le (by simp) hW.size)
  generalize byT l n = R at *
  clear hl hs
  go_enter Tryd.func23, Tryd.ntmps23
  go_wp2_with fail
  refine C.out.mono ?_
  intro e w1 h1
  obtain ⟨v, rfl, hown, hb1⟩ := KRow.up h1 HB.out
  have H1 : Hid (_ ∧ _) := And.intro hown hb1
  clear hown hb1 h1
  go_wp2
  go_ret
  exact ⟨v, rfl, H1.out.1, H1.out.2⟩

theorem byT_len (l : List Kp) (n : ByteArray) : (byT l n).length ≤ l.length := List.length_filter_le _ _

set_option maxHeartbeats 1000000 in
theorem nextVersion_any (l : List Kp) (n : ByteArray) (ao : Option Addr) (co : Nat) (w : World) (hl : KpsIn w ao l) (hc : chkK l = 0) :
    Calls Tryd.prog 21 #[.slice ao l.length co, .string n] w fun e w' => e = .returned (.int .i64 (nextV l n)) ∧ Below w.heap.size w w' := by
  have C := hide (kby_any l n ao co w hl ((chkK_iff l).1 hc).1 (small_of hc))
  have hall := ((chkK_iff l).1 hc).2.1
  have hv : ∀ k ∈ byT l n, k.ver ≤ 16777215 ∧ 1 ≤ k.ver := fun k hk => by
    have := (chkO_topic (hall k (List.mem_filter.1 hk).1)).2.2.2
    omega
  have hln := byT_len l n
  have h16 := ((chkK_iff l).1 hc).1
  unfold nextV
  clear hl hall hc
  generalize byT l n = R at *
  go_enter Tryd.func21, Tryd.ntmps21
  go_wp2_with fail
  refine C.out.mono ?_
  intro e w1 h1
  obtain ⟨v, rfl, hown, hb1⟩ := h1
  obtain ⟨aa, ca, rfl⟩ := kown_form hown
  have HB1 := hide hb1
  have HK := hide (own_kps hown rfl)
  clear hown hb1 C
  cases R with
  | nil =>
    go_wp2
    go_ret
    exact ⟨rfl, HB1.out⟩
  | cons k r =>
    obtain ⟨b, o, rfl, hb, hcell⟩ := kps_here HK.out (k := 0) (by simp)
    have c2 := (hcell 0 (by simp)).2.2
    simp only [Nat.zero_mul, Nat.add_zero, List.getElem_cons_zero] at c2
    have hk := hv k (by simp)
    have hl1 : ((k :: r).length : Int) = r.length + 1 := by simp
    have e1 : (((k :: r).length : Int) == 0) = false := beq_false_of_ne (by omega)
    have e2 : 0 < (k :: r).length := by simp
    clear hcell hv HK
    obtain ⟨V, hV⟩ : ∃ V, k.ver = V := ⟨_, rfl⟩
    rw [hV] at c2 hk
    have HV := hide hV
    clear hV
    generalize (k :: r).length = m at *
    go_wp2
    go_ret
    exact ⟨by show _ = Ending.returned (.int .i64 (min (k.ver + 1) 16777215)); rw [HV.out]; rfl, HB1.out⟩

set_option maxHeartbeats 2000000 in
set_option maxRecDepth 100000 in
theorem kget_any (l : List Kp) (n : ByteArray) (ao : Option Addr) (co : Nat) (w : World) (hl : KpsIn w ao l) (hm : Max w) :
    Calls Tryd.prog 6 #[.slice ao l.length co, .string n] w fun e w' => e = .returned (.tuple #[kpV (getK l n), .int .i64 (getE l n)]) ∧ Below w.heap.size w w' := by
  have C1 : Hid (∀ W, Below w.heap.size w W → Calls Tryd.prog 17 #[.string n] W fun e w' => e = .returned (.int .i64 (chk nameF n)) ∧ Below W.heap.size W w') := fun W h => name_max n W (hm.below h)
  have C2 : Hid (∀ W, Below w.heap.size w W → Calls Tryd.prog 16 #[.slice ao l.length co, .int .i64 (chk nameF n)] W fun e w' => e = .returned (.int .i64 (allE l (chk nameF n))) ∧ Below W.heap.size W w') := fun W h => checkAll_any l _ ao co W (hl.below h) (hm.below h)
  have C3 : Hid (chkK l = 0 → ∀ W, Below w.heap.size w W → Calls Tryd.prog 23 #[.slice ao l.length co, .string n] W (KRow W (byT l n))) := fun h W hW => kby_any l n ao co W (hl.below hW) ((chkK_iff l).1 h).1 (small_of h)
  have hln := byT_len l n
  have HBad : Hid (allE l (chk nameF n) ≠ 0 → getE l n = allE l (chk nameF n) ∧ getK l n = kpZ) := fun h => by
    have hE : getE l n = allE l (chk nameF n) := if_pos h
    exact ⟨hE, by unfold getK; rw [hE, if_neg h]⟩
  have HNone : Hid (allE l (chk nameF n) = 0 → byT l n = [] → getE l n = 5 ∧ getK l n = kpZ) := fun h h2 => by
    have hE : getE l n = 5 := by unfold getE; rw [if_neg (by simp [h]), if_pos h2]
    exact ⟨hE, by unfold getK; rw [hE]; rfl⟩
  have HOk : Hid (∀ k r, allE l (chk nameF n) = 0 → byT l n = k :: r → getE l n = 0 ∧ getK l n = k) := fun k r h h2 => by
    have hE : getE l n = 0 := by unfold getE; rw [if_neg (by simp [h]), if_neg (by simp [h2])]
    exact ⟨hE, by unfold getK; rw [hE, h2]; rfl⟩
  have HC0 : Hid (allE l (chk nameF n) = 0 → chkK l = 0 ∧ l.length ≤ 16) := fun h => by
    unfold allE at h
    split at h
    · rename_i h4; exact absurd h h4
    · rename_i h4; exact ⟨Decidable.not_not.1 h4, ((chkK_iff l).1 (Decidable.not_not.1 h4)).1⟩
  clear hl hm
  generalize getE l n = GE at *
  generalize getK l n = GK at *
  generalize allE l (chk nameF n) = A at *
  generalize chk nameF n = N at *
  have HB := hide ((Below.refl w.heap.size w).alloc (Nat.le_refl _) (.cells #[.string ⟨#[]⟩, .string ⟨#[]⟩, .int .i64 0] 27))
  have z0 := kp_cells w (.string ⟨#[]⟩) (.string ⟨#[]⟩) (.int .i64 0)
  have zh : (w.alloc (.cells #[.string ⟨#[]⟩, .string ⟨#[]⟩, .int .i64 0] 27)).heap[w.heap.size]? = some (.cells #[.string ⟨#[]⟩, .string ⟨#[]⟩, .int .i64 0] 27 (0, 0)) := Go.heap_alloc_new w _
  have HZ := hide zh
  clear zh z0
  go_enter Tryd.func6, Tryd.ntmps6
  go_wp2_with fail
  refine (C1.out _ HB.out).mono ?_
  rintro e w1 ⟨rfl, hb1⟩
  have HB1 := hide (below_step HB.out hb1)
  have HZ1 := hide ((hb1.block w.heap.size (Array.getElem?_eq_some_iff.1 HZ.out).1).trans HZ.out)
  clear hb1 C1 HZ
  go_wp2_with fail
  refine (C2.out _ HB1.out).mono ?_
  rintro e w2 ⟨rfl, hb2⟩
  have HB2 := hide (below_step HB1.out hb2)
  have HZ2 := hide ((hb2.block w.heap.size (Array.getElem?_eq_some_iff.1 HZ1.out).1).trans HZ1.out)
  clear hb2 C2 HZ1
  by_cases h1 : A = 0
  · have h1' : (A != 0) = false := by simp [h1]
    obtain ⟨hc, h16⟩ := HC0.out h1
    have C3 := hide (C3.out hc)
    have HNone := hide (HNone.out h1)
    have HOk := hide (fun k r => HOk.out k r h1)
    clear h1 hc HBad HC0
    go_wp2_with fail
    refine (C3.out _ HB2.out).mono ?_
    intro e w3 h3
    obtain ⟨v, rfl, hown, hb3⟩ := h3
    obtain ⟨aa, ca, rfl⟩ := kown_form hown
    have HB3 := hide (below_step HB2.out hb3)
    have hz3 := (hb3.block w.heap.size (Array.getElem?_eq_some_iff.1 HZ2.out).1).trans HZ2.out
    have z3 : ∀ o, w3.cell? ⟨w.heap.size, o, none⟩ = (#[.string ⟨#[]⟩, .string ⟨#[]⟩, .int .i64 0] : Array Value)[o]? := fun o => Lib.cell_of_heap hz3 o
    have f3 : ∀ o, w3.frozen? ⟨w.heap.size, o, none⟩ = false := fun o => Lib.frozen_of_heap hz3 o
    have HK := hide (own_kps hown rfl)
    clear hown hb3 C3 hz3 HZ2
    generalize byT l n = R at *
    cases R with
    | nil =>
      obtain ⟨x1, x2⟩ := HNone.out rfl
      subst x1 x2
      go_wp2
      exact bodyPost_ret (v := .tuple #[kpV kpZ, .int .i64 5]) (by simp [results, Tryd.results6, go_sem, kpV, kpZ, World.cell?_setCell_same, z3]) rfl ⟨rfl, kthree_below HB3.out (Nat.le_refl _) _ _ _⟩
    | cons k r =>
      obtain ⟨x1, x2⟩ := HOk.out k r rfl
      subst x1 x2
      obtain ⟨b, o, rfl, hb, hcell⟩ := kps_here HK.out (k := 0) (by simp)
      obtain ⟨c0, c1, c2⟩ := hcell 0 (by simp)
      simp only [Nat.zero_mul, Nat.add_zero, List.getElem_cons_zero] at c0 c1 c2
      have hl1 : ((GK :: r).length : Int) = r.length + 1 := by simp
      have e1 : (((GK :: r).length : Int) == 0) = false := beq_false_of_ne (by omega)
      have e2 : 0 < (GK :: r).length := by simp
      clear hcell HK HNone HOk
      generalize (GK :: r).length = m at *
      obtain ⟨t, p, v⟩ := GK
      simp only at c0 c1 c2 ⊢
      go_wp2
      exact bodyPost_ret (v := .tuple #[.agg #[.string t, .string p, .int .i64 v], .int .i64 0]) (by simp [results, Tryd.results6, go_sem, World.cell?_setCell_same, z3]) rfl ⟨rfl, kthree_below HB3.out (Nat.le_refl _) _ _ _⟩
  · have h1' : (A != 0) = true := by simp [h1]
    obtain ⟨x1, x2⟩ := HBad.out h1
    subst x1 x2
    have z2 : ∀ o, w2.cell? ⟨w.heap.size, o, none⟩ = (#[.string ⟨#[]⟩, .string ⟨#[]⟩, .int .i64 0] : Array Value)[o]? := fun o => Lib.cell_of_heap HZ2.out o
    have f2 : ∀ o, w2.frozen? ⟨w.heap.size, o, none⟩ = false := fun o => Lib.frozen_of_heap HZ2.out o
    clear h1 HBad HC0 HNone HOk C3 HZ2
    go_wp2
    exact bodyPost_ret (v := .tuple #[kpV kpZ, .int .i64 GE]) (by simp [results, Tryd.results6, go_sem, kpV, kpZ, World.cell?_setCell_same, z2]) rfl ⟨rfl, kthree_below HB2.out (Nat.le_refl _) _ _ _⟩

def listE (l : List Kp) (n : ByteArray) : Int := allE l (chk filtF n)
def listA (l : List Kp) (n : ByteArray) : List Kp := if listE l n = 0 then l.filter (forT n) else []
/-- a row and a number come -/
def KPost (w : World) (L : List Kp) (E : Int) (e : Ending) (w' : World) : Prop := ∃ v, e = .returned (.tuple #[v, .int .i64 E]) ∧ w'.ownsRow w.heap.size 27 3 v L.length (kpCells L) ∧ Below w.heap.size w w'

set_option maxHeartbeats 2000000 in
theorem klist_any (l : List Kp) (n : ByteArray) (ao : Option Addr) (co : Nat) (w : World) (hl : KpsIn w ao l) (hm : Max w) :
    Calls Tryd.prog 7 #[.slice ao l.length co, .string n] w (KPost w (listA l n) (listE l n)) := by
  have HB := hide ((Below.refl w.heap.size w).alloc (Nat.le_refl _) (.cells #[.string n] 9))
  have C1 : Hid (∀ W, Below w.heap.size w W → Calls Tryd.prog 24 #[.string n] W fun e w' => e = .returned (.int .i64 (chk filtF n)) ∧ Below W.heap.size W w') := fun W h => filter_max n W (hm.below h)
  have C2 : Hid (∀ W, Below w.heap.size w W → Calls Tryd.prog 16 #[.slice ao l.length co, .int .i64 (chk filtF n)] W fun e w' => e = .returned (.int .i64 (allE l (chk filtF n))) ∧ Below W.heap.size W w') := fun W h => checkAll_any l _ ao co W (hl.below h) (hm.below h)
  have C3 : Hid (chkK l = 0 → ∀ W, Below w.heap.size w W → W.cell? ⟨w.heap.size, 0, none⟩ = some (.string n) → w.heap.size < W.heap.size → Calls Tryd.prog 18 #[.slice ao l.length co, .func (.func 25) #[] #[.pointer (some ⟨w.heap.size, 0, none⟩)]] W (KRow W (l.filter (forT n)))) := fun h W hW hc hz =>
    those_for w.heap.size (forT n) l ao co W (hl.below hW) ((chkK_iff l).1 h).1 (small_of h) fun k W' hW' => lit_for k w.heap.size n W' ((hW'.cell (p := ⟨w.heap.size, 0, none⟩) hz).trans hc) (Nat.lt_of_lt_of_le hz hW'.size) ((hm.below hW).below hW')
  have HC0 : Hid (allE l (chk filtF n) = 0 → chkK l = 0) := fun h => by
    unfold allE at h
    split at h
    · rename_i h4; exact absurd h h4
    · rename_i h4; exact Decidable.not_not.1 h4
  have q0 := box_cell w n
  have hz : w.heap.size < (w.alloc (.cells #[.string n] 9)).heap.size := by simp
  have HA1 : Hid (allE l (chk filtF n) = 0 → listA l n = l.filter (forT n)) := fun h => if_pos h
  have HA0 : Hid (allE l (chk filtF n) ≠ 0 → listA l n = []) := fun h => if_neg h
  unfold listE
  clear hl hm
  generalize listA l n = LA at *
  generalize allE l (chk filtF n) = A at *
  generalize chk filtF n = N at *
  generalize l.filter (forT n) = R at *
  go_enter Tryd.func7, Tryd.ntmps7
  go_wp2_with fail
  refine (C1.out _ HB.out).mono ?_
  rintro e w1 ⟨rfl, hb1⟩
  have HB1 := hide (below_step HB.out hb1)
  have q1 := (hb1.cell (p := ⟨w.heap.size, 0, none⟩) hz).trans q0
  have hz1 : w.heap.size < w1.heap.size := Nat.lt_of_lt_of_le hz hb1.size
  clear hb1 C1 q0 hz
  go_wp2_with fail
  refine (C2.out _ HB1.out).mono ?_
  rintro e w2 ⟨rfl, hb2⟩
  have HB2 := hide (below_step HB1.out hb2)
  have q2 := (hb2.cell (p := ⟨w.heap.size, 0, none⟩) hz1).trans q1
  have hz2 : w.heap.size < w2.heap.size := Nat.lt_of_lt_of_le hz1 hb2.size
  clear hb2 C2 q1 hz1
  by_cases h1 : A = 0
  · have h1' : (A != 0) = false := by simp [h1]
    have C := hide (C3.out (HC0.out h1) w2 HB2.out q2 hz2)
    obtain rfl := HA1.out h1
    subst h1
    clear HC0 C3 HA1 HA0
    go_wp2_with fail
    refine C.out.mono ?_
    intro e w3 h3
    obtain ⟨v, rfl, hown, hb3⟩ := KRow.up h3 HB2.out
    have H3 : Hid (_ ∧ _) := And.intro hown hb3
    clear hown hb3 h3 C
    go_wp2
    go_ret2
    exact ⟨v, rfl, H3.out.1, H3.out.2⟩
  · have h1' : (A != 0) = true := by simp [h1]
    obtain rfl := HA0.out h1
    clear h1 HC0 C3 HA1 HA0
    go_wp2
    go_ret2
    exact ⟨_, rfl, World.ownsRow_nil _ _ _ _, HB2.out⟩
end Go.Proofs.YtcldjoklkbbbgadDoor
