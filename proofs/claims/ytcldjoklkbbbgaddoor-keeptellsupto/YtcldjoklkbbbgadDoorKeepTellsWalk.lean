/-
  dragomanlaw.keptAre; KeepTells: the walk through the law, by the contracts of what it calls.
-/
import Derived.Test.YtcldjoklkbbbgadDoorKeepPutWalk
import Derived.Test.YtcldjoklkbbbgadDoorKeepListWalk
namespace Go.Proofs.YtcldjoklkbbbgadDoor
open Go.RowKit Go.PlainAid

set_option maxHeartbeats 1000000 in
theorem keptAre_yes (L : List Kp) (E : Int) (ap ao : Option Addr) (cp co m : Nat) (w : World) (hp : KpsIn w ap L) (hl : E = 0 → m = L.length ∧ KpsIn w ao L) (hn : L.length ≤ 1152921504606846976) (h0 : E ≠ 0 → L = []) :
    Calls Tryd.prog 15 #[.slice ap L.length cp, .int .i64 E, .int .i64 E, .slice ao m co] w fun e w' => e = .returned (.bool true) ∧ Below w.heap.size w w' := by
  by_cases hE : E = 0
  · obtain ⟨rfl, hk⟩ := hl hE
    subst hE
    have C := hide (sameKept_yes L ap ao cp co w hp hk hn)
    clear hp hk hl h0
    go_enter Tryd.func15, Tryd.ntmps15
    go_wp2_with fail
    refine C.out.mono ?_
    rintro e w1 ⟨rfl, hb1⟩
    have HB1 := hide hb1
    clear hb1
    go_wp2
    go_ret
    exact ⟨rfl, HB1.out⟩
  · obtain rfl := h0 hE
    have hE' : (E != 0) = true := by simp [hE]
    have C := hide (sameKept_yes [] ap none cp 0 w hp (.inl rfl) (by simp))
    clear hp hl h0 hE
    go_enter Tryd.func15, Tryd.ntmps15
    go_wp2_with fail
    refine C.out.mono ?_
    rintro e w1 ⟨rfl, hb1⟩
    have HB1 := hide hb1
    clear hb1
    go_wp2
    go_ret
    exact ⟨rfl, HB1.out⟩

theorem kp_set {W : World} {b : Nat} {x y z x' y' z' : Value} {t : TypeId} (h : W.heap[b]? = some (.cells #[x, y, z] t (0, 0))) : (((W.setCell ⟨b, 0, none⟩ x').setCell ⟨b, 1, none⟩ y').setCell ⟨b, 2, none⟩ z').heap[b]? = some (.cells #[x', y', z'] t (0, 0)) := by
  simp [World.setCell, Array.getElem?_modify, h]
theorem below_start {w a b : World} (h : Below w.heap.size w a) (k : Below a.heap.size a b) : Below w.heap.size w b := h.trans (k.mono h.size)
theorem at_get {l : List Kp} {n : ByteArray} : ∀ (m : Nat), (atF n m l < 0 → byT l n = []) ∧ (∀ i : Nat, atF n m l = (i : Int) → ∃ (j : Nat) (h : j < l.length), i = m + j ∧ byT l n ≠ [] ∧ (byT l n).headD kpZ = l[j]) := by
  induction l with
  | nil => intro m; exact ⟨fun _ => rfl, fun i h => by simp [atF] at h⟩
  | cons k l ih =>
    intro m
    rw [atF]
    by_cases hk : k.topic = n
    · rw [if_pos hk]
      refine ⟨fun h => by omega, fun i h => ⟨0, by simp, by omega, ?_, ?_⟩⟩
      · simp [byT, isT, hk]
      · simp [byT, isT, hk]
    · rw [if_neg hk]
      obtain ⟨h1, h2⟩ := ih (m + 1)
      have e : byT (k :: l) n = byT l n := by simp [byT, isT, hk]
      rw [e]
      refine ⟨h1, fun i h => ?_⟩
      obtain ⟨j, hj, hi, hne, hd⟩ := h2 i h
      exact ⟨j + 1, by simpa using hj, by omega, hne, by simpa using hd⟩

set_option maxHeartbeats 8000000 in
set_option maxRecDepth 100000 in
theorem keepTells_walk (l : List Kp) (ao : Option Addr) (co : Nat) (n p : ByteArray) (w : World) (hl : KpsIn w ao l) (hm : Max w) (hs : ∀ k ∈ l, k.topic.size ≤ 1048576) (hn : n.size ≤ 1048576) :
    Calls Tryd.prog 3 #[.slice ao l.length co, .string n, .string p] w fun e w' => e = .returned (.bool true) ∧ Below w.heap.size w w' := by
  have CP : Hid (∀ W, Below w.heap.size w W → Calls Tryd.prog 5 #[.slice ao l.length co, .string n, .string p] W (KPost W (putA l n p) (putE l n p))) := fun W h => kput_any l n p ao co W (hl.below h) (hm.below h)
  have CG : Hid (∀ W, Below w.heap.size w W → Calls Tryd.prog 6 #[.slice ao l.length co, .string n] W fun e w' => e = .returned (.tuple #[.agg #[.string (getK l n).topic, .string (getK l n).payload, .int .i64 (getK l n).ver], .int .i64 (getE l n)]) ∧ Below W.heap.size W w') := fun W h => kget_any l n ao co W (hl.below h) (hm.below h)
  have CLi : Hid (∀ W, Below w.heap.size w W → Calls Tryd.prog 7 #[.slice ao l.length co, .string n] W (KPost W (listA l n) (listE l n))) := fun W h => klist_any l n ao co W (hl.below h) (hm.below h)
  have CC : Hid (∀ W, Below w.heap.size w W → Calls Tryd.prog 14 #[.slice ao l.length co] W fun e w' => e = .returned (.int .i64 (chkK l)) ∧ Below W.heap.size W w') := fun W h => kcheck_any l ao co W (hl.below h) (hm.below h)
  have CR : Hid (∀ W, Below w.heap.size w W → Calls Tryd.prog 8 #[.slice ao l.length co] W fun e w' => e = .returned (.int .i64 (chkK l)) ∧ Below W.heap.size W w') := fun W h => checkKept_any l ao co W (hl.below h) hs
  have CT1 : Hid (∀ W, Calls Tryd.prog 9 #[.string n, .bool false] W fun e w' => e = .returned (.int .i64 (chk nameF n)) ∧ Below W.heap.size W w') := fun W => checkTopic_any n false W hn
  have CT2 : Hid (∀ W, Calls Tryd.prog 9 #[.string n, .bool true] W fun e w' => e = .returned (.int .i64 (chk filtF n)) ∧ Below W.heap.size W w') := fun W => checkTopic_any n true W hn
  have CB : Hid (∀ W, Below w.heap.size w W → Calls Tryd.prog 13 #[] W fun e w' => e = .returned (.bool true) ∧ Below W.heap.size W w') := fun W h => keepBegun_yes W (hm.below h)
  have HLL := hide hl
  have hA1 : chkK l = 0 → allE l (chk nameF n) = chk nameF n ∧ allE l (chk filtF n) = chk filtF n := fun h => ⟨if_neg (by simp [h]), if_neg (by simp [h])⟩
  have hA2 : chkK l ≠ 0 → allE l (chk nameF n) = chkK l ∧ allE l (chk filtF n) = chkK l := fun h => ⟨if_pos h, if_pos h⟩
  have CPO : Hid (allE l (chk nameF n) = 0 → ∀ W, Below w.heap.size w W → Calls Tryd.prog 10 #[.slice ao l.length co, .string n, .string p] W (KPost W (putA l n p) (putE l n p))) := fun h W hW => by
    have hc : chkK l = 0 := Decidable.byContradiction fun hc => hc (by rw [← (hA2 hc).1]; exact h)
    exact putOf_any l n p ao co W (hl.below hW) hc (by rw [← (hA1 hc).1]; exact h)
  have CAT : Hid (allE l (chk nameF n) = 0 → ∀ W, Below w.heap.size w W → Calls Tryd.prog 11 #[.slice ao l.length co, .string n] W fun e w' => e = .returned (.int .i64 (atF n 0 l)) ∧ w' = W) := fun h W hW => by
    have hc : chkK l = 0 := Decidable.byContradiction fun hc => hc (by rw [← (hA2 hc).1]; exact h)
    exact keptAt_any l n ao co W (hl.below hW) (by have := ((chkK_iff l).1 hc).1; omega)
  have CLO : Hid (allE l (chk filtF n) = 0 → ∀ W, Below w.heap.size w W → Calls Tryd.prog 12 #[.slice ao l.length co, .string n] W (KRow W (listA l n))) := fun h W hW => by
    have hc : chkK l = 0 := Decidable.byContradiction fun hc => hc (by rw [← (hA2 hc).2]; exact h)
    have := listOf_any l n ao co W (hl.below hW) hc (by rw [← (hA1 hc).2]; exact h)
    rwa [show listA l n = l.filter (forT n) from if_pos h]
  have HLE : Hid (listE l n = allE l (chk filtF n)) := rfl
  have HP0 : Hid (allE l (chk nameF n) ≠ 0 → putE l n p = allE l (chk nameF n) ∧ getE l n = allE l (chk nameF n) ∧ getK l n = kpZ) := fun h => by
    have hE : getE l n = allE l (chk nameF n) := if_pos h
    exact ⟨if_pos h, hE, by unfold getK; rw [hE, if_neg h]⟩
  have HPn : Hid (putE l n p ≠ 0 → putA l n p = []) := fun h => if_neg h
  have HLn : Hid (allE l (chk filtF n) ≠ 0 → listA l n = []) := fun h => if_neg h
  have HGA : Hid (allE l (chk nameF n) = 0 → (atF n 0 l < 0 → getE l n = 5 ∧ getK l n = kpZ) ∧ (∀ i : Nat, atF n 0 l = (i : Int) → ∃ h : i < l.length, getE l n = 0 ∧ getK l n = l[i])) := fun h => by
    obtain ⟨g1, g2⟩ := at_get (l := l) (n := n) 0
    refine ⟨fun hlt => ?_, fun i hi => ?_⟩
    · have hE : getE l n = 5 := by unfold getE; rw [if_neg (by simp [h]), if_pos (g1 hlt)]
      exact ⟨hE, by unfold getK; rw [hE]; rfl⟩
    · obtain ⟨j, hj, hij, hne, hd⟩ := g2 i hi
      obtain rfl : i = j := by omega
      have hE : getE l n = 0 := by unfold getE; rw [if_neg (by simp [h]), if_neg hne]
      exact ⟨hj, hE, by unfold getK; rw [hE, if_pos rfl]; exact hd⟩
  have HPL16 : Hid ((putA l n p).length ≤ 1152921504606846976) := by
    show _ ≤ _
    unfold putA
    split
    · rename_i h; have := (putE_ok h).2.2.2; omega
    · simp
  have HLL16 : Hid ((listA l n).length ≤ 1152921504606846976) := by
    show _ ≤ _
    unfold listA
    split
    · rename_i h
      have h1 := ((chkK_iff l).1 (list_ok h).1).1
      have h2 := List.length_filter_le (forT n) l
      omega
    · simp
  have HAV : Hid ((chkK l = 0 → allE l (chk nameF n) = chk nameF n ∧ allE l (chk filtF n) = chk filtF n) ∧ (chkK l ≠ 0 → allE l (chk nameF n) = chkK l ∧ allE l (chk filtF n) = chkK l)) := ⟨hA1, hA2⟩
  clear hl hm hs hn hA1 hA2
  rw [HLE.out] at CLi
  clear HLE
  generalize putE l n p = PE at *
  generalize putA l n p = PA at *
  generalize getE l n = GE at *
  generalize getK l n = GK at *
  generalize listA l n = LA at *
  generalize allE l (chk nameF n) = AV at *
  generalize allE l (chk filtF n) = AW at *
  generalize chk nameF n = N at *
  generalize chk filtF n = F at *
  generalize chkK l = K at *
  generalize atF n 0 l = AT at *
  obtain ⟨gt, gp, gv⟩ := GK
  simp only at CG
  go_enter Tryd.func3, Tryd.ntmps3
  go_wp2_with fail
  refine (CP.out _ (Below.refl _ _)).mono ?_
  intro e w1 h1
  obtain ⟨a7, c7, rfl, hk1, hb1⟩ := KPost.inn h1
  have HB1 := hide hb1
  have HK1 := hide hk1
  clear hk1 hb1 h1 CP
  go_wp2_with fail
  refine (CG.out _ HB1.out).mono ?_
  rintro e w2 ⟨rfl, hb2⟩
  have HB2 := hide ((below_start HB1.out hb2).alloc (below_start HB1.out hb2).size (.cells #[.string gt, .string gp, .int .i64 gv] 27))
  have HK2 := hide ((HK1.out.below hb2).below ((Below.refl w2.heap.size w2).alloc (Nat.le_refl _) (.cells #[.string gt, .string gp, .int .i64 gv] 27)))
  have HX2 : Hid ((w2.alloc (.cells #[.string gt, .string gp, .int .i64 gv] 27)).heap[w2.heap.size]? = some (.cells #[.string gt, .string gp, .int .i64 gv] 27 (0, 0))) := Go.heap_alloc_new w2 _
  clear hb2 HB1 HK1 CG
  go_wp2_with fail
  refine (CLi.out _ HB2.out).mono ?_
  intro e w3 h3
  obtain ⟨a11, c11, rfl, hk3, hb3⟩ := KPost.inn h3
  have HB3 := hide (below_start HB2.out hb3)
  have HK3 := hide (HK2.out.below hb3)
  have HJ3 := hide hk3
  have HX3 := hide ((hb3.block _ (Array.getElem?_eq_some_iff.1 HX2.out).1).trans HX2.out)
  clear hk3 hb3 h3 HB2 HK2 HX2 CLi
  go_wp2_with fail
  refine (CR.out _ HB3.out).mono ?_
  rintro e w4 ⟨rfl, hb4⟩
  have HB4 := hide (below_start HB3.out hb4)
  have HK4 := hide (HK3.out.below hb4)
  have HJ4 := hide (HJ3.out.below hb4)
  have HX4 := hide ((hb4.block _ (Array.getElem?_eq_some_iff.1 HX3.out).1).trans HX3.out)
  clear hb4 HB3 HK3 HJ3 HX3
  generalize w2.heap.size = b9 at *
  go_upto_if 44 with fail
  go_cut [13] (fun x wr => x = .int .i64 AV ∧ Hid (Below w4.heap.size w4 wr))
  case first =>
    by_cases hK : K = 0
    · have hK' : (K == 0) = true := by simp [hK]
      have HAN := hide (HAV.out.1 hK).1
      clear hK
      go_wp2_with fail
      refine (CT1.out _).mono ?_
      rintro e w5 ⟨rfl, hb5⟩
      have HB5 := hide hb5
      clear hb5
      go_wp2_with fail
      go_meet
      case rel => exact ⟨by rw [HAN.out], HB5.out⟩
    · have hK' : (K == 0) = false := by simp [hK]
      have HAN := hide (HAV.out.2 hK).1
      clear hK
      go_wp2_with fail
      go_meet
      case rel => exact ⟨by rw [HAN.out], Below.refl _ _⟩
  case rest =>
    obtain ⟨rfl, HB5⟩ := hcut
    go_upto_if 48 with fail
    go_cut [14] (fun x wr => x = .int .i64 AW ∧ Hid (Below w4.heap.size w4 wr))
    case first =>
      by_cases hK : K = 0
      · have hK' : (K == 0) = true := by simp [hK]
        have HAN := hide (HAV.out.1 hK).2
        clear hK
        go_wp2_with fail
        refine (CT2.out _).mono ?_
        rintro e w5 ⟨rfl, hb5⟩
        have HB6 := hide (below_start HB5.out hb5)
        clear hb5
        go_wp2_with fail
        go_meet
        case rel => exact ⟨by rw [HAN.out], HB6.out⟩
      · have hK' : (K == 0) = false := by simp [hK]
        have HAN := hide (HAV.out.2 hK).2
        clear hK
        go_wp2_with fail
        go_meet
        case rel => exact ⟨by rw [HAN.out], HB5.out⟩
    case rest =>
      obtain ⟨rfl, HB6⟩ := hcut
      obtain ⟨W6, hW6⟩ : ∃ W6, W6 = wc := ⟨_, rfl⟩
      subst hW6
      have HB6w := hide (below_start HB4.out HB6.out)
      have HK6 := hide (HK4.out.below HB6.out)
      have HJ6 := hide (HJ4.out.below HB6.out)
      have HX6 := hide ((HB6.out.block _ (Array.getElem?_eq_some_iff.1 HX4.out).1).trans HX4.out)
      clear HB4 HK4 HJ4 HX4 HB5 HB6 CT1 CT2 HAV
      have HZ : Hid ((W6.alloc (.cells #[.string ⟨#[]⟩, .string ⟨#[]⟩, .int .i64 0] 27)).heap[W6.heap.size]? = some (.cells #[.string ⟨#[]⟩, .string ⟨#[]⟩, .int .i64 0] 27 (0, 0))) := Go.heap_alloc_new W6 _
      have HZB : Hid (Below W6.heap.size W6 (W6.alloc (.cells #[.string ⟨#[]⟩, .string ⟨#[]⟩, .int .i64 0] 27))) := (Below.refl _ W6).alloc (Nat.le_refl _) _
      go_upto_if 54 with fail
      revert HZ HZB
      generalize W6.alloc (.cells #[.string ⟨#[]⟩, .string ⟨#[]⟩, .int .i64 0] 27) = W7
      intro HZ HZB
      go_cut [15, 16, 17] (fun x y z wr => ∃ (ab : Option Addr) (m cb : Nat), x = .int .i64 PE ∧ y = .int .i64 GE ∧ z = .slice ab m cb ∧ Hid (Below W6.heap.size W6 wr ∧ wr.heap[W6.heap.size]? = some (.cells #[.string gt, .string gp, .int .i64 gv] 27 (0, 0)) ∧ (PE = 0 → m = PA.length ∧ KpsIn wr ab PA)))
      case first =>
        by_cases hV : AV = 0
        · have hV' : (AV == 0) = true := by simp [hV]
          have CPO := hide (CPO.out hV)
          have CAT := hide (CAT.out hV)
          obtain ⟨hg1, hg2⟩ := HGA.out hV
          have HG1 := hide hg1
          have HG2 := hide hg2
          have HV0 := hide hV
          have hz7 : W6.heap.size < W7.heap.size := (Array.getElem?_eq_some_iff.1 HZ.out).1
          clear hV hg1 hg2 HP0 HGA
          go_wp2_with fail
          refine (CPO.out _ (below_start HB6w.out HZB.out)).mono ?_
          intro e w8 h8
          obtain ⟨v8, rfl, hown8, hb8⟩ := h8
          obtain ⟨a17, c17, rfl⟩ := kown_form hown8
          have HB8 := hide (below_start HZB.out hb8)
          have HK8 := hide (own_kps hown8 rfl)
          have HOW := hide hown8
          have HX8 := hide ((hb8.block _ (Array.getElem?_eq_some_iff.1 HZ.out).1).trans HZ.out)
          clear hown8 hb8 CPO HZ HZB
          go_wp2_with fail
          refine (CAT.out _ (below_start HB6w.out HB8.out)).mono ?_
          rintro e w9 ⟨rfl, h9⟩
          subst h9
          clear CAT
          by_cases hA : AT < 0
          · obtain ⟨y1, y2⟩ := HG1.out hA
            injection y2 with y2 y3 y4
            subst y1 y2 y3 y4
            go_wp2_with fail
            go_meet
            case rel => exact ⟨a17, PA.length, c17, rfl, rfl, rfl, HB8.out, HX8.out, fun _ => ⟨rfl, HK8.out⟩⟩
          · obtain ⟨i, rfl⟩ : ∃ i : Nat, AT = i := ⟨AT.toNat, by omega⟩
            obtain ⟨hi, y1, y2⟩ := HG2.out i rfl
            subst y1
            obtain ⟨b, o, rfl, hb, hcell⟩ := kps_here HLL.out hi
            obtain ⟨e0, e1, e2⟩ := hcell i hi
            rw [← y2] at e0 e1 e2
            simp only at e0 e1 e2
            have HBw := hide (below_start HB6w.out HB8.out)
            have d0 := (HBw.out.cell (p := ⟨b, _, none⟩) hb).trans e0
            have d1 := (HBw.out.cell (p := ⟨b, _, none⟩) hb).trans e1
            have d2 := (HBw.out.cell (p := ⟨b, _, none⟩) hb).trans e2
            have z8 : ∀ q, w9.cell? ⟨W6.heap.size, q, none⟩ = (#[.string ⟨#[]⟩, .string ⟨#[]⟩, .int .i64 0] : Array Value)[q]? := fun q => Lib.cell_of_heap HX8.out q
            have f8 : ∀ q, w9.frozen? ⟨W6.heap.size, q, none⟩ = false := fun q => Lib.frozen_of_heap HX8.out q
            clear hcell e0 e1 e2 y2
            go_wp2_with fail
            go_meet
            case rel => exact ⟨a17, PA.length, c17, rfl, by rw [HV0.out], rfl, kthree_below HB8.out (Nat.le_refl _) _ _ _, kp_set HX8.out, fun _ => ⟨rfl, own_kps (kown_kept HOW.out fun g hg => by
              have hge := (kown_at HOW.out hg).1
              rw [Below.heap_setCell _ _ _ _ (by show g ≠ W6.heap.size; omega), Below.heap_setCell _ _ _ _ (by show g ≠ W6.heap.size; omega), Below.heap_setCell _ _ _ _ (by show g ≠ W6.heap.size; omega)]) rfl⟩⟩
        · have hV' : (AV == 0) = false := by simp [hV]
          obtain ⟨y1, y2, y3⟩ := HP0.out hV
          injection y3 with y3 y4 y5
          subst y1 y2 y3 y4 y5
          have HV := hide hV
          clear hV HP0 HGA CPO CAT
          go_wp2_with fail
          go_meet
          case rel => exact ⟨none, 0, 0, rfl, rfl, rfl, HZB.out, HZ.out, fun h => absurd h HV.out⟩
      case rest =>
        obtain ⟨ab, m, cb, rfl, rfl, rfl, HC⟩ := hcut
        have HBw := hide (below_start HB6w.out HC.out.1)
        have HK7 := hide (HK6.out.below HC.out.1)
        have HJ7 := hide (HJ6.out.below HC.out.1)
        have HX7 := hide ((HC.out.1.block _ (Array.getElem?_eq_some_iff.1 HX6.out).1).trans HX6.out)
        have HY7 := hide HC.out.2.1
        have HM7 := hide HC.out.2.2
        generalize W6.heap.size = b19 at *
        clear HB6w HK6 HJ6 HX6 HC HZ HZB CPO CAT HP0 HGA
        obtain ⟨W8, hW8⟩ : ∃ W8, W8 = wc := ⟨_, rfl⟩
        subst hW8
        go_upto_if 72 with fail
        go_cut [18] (fun z wr => ∃ (ad : Option Addr) (m2 cd : Nat), z = .slice ad m2 cd ∧ Hid (Below W8.heap.size W8 wr ∧ (AW = 0 → m2 = LA.length ∧ KpsIn wr ad LA)))
        case first =>
          by_cases hA : AW = 0
          · have hA' : (AW == 0) = true := by simp [hA]
            have CLO := hide (CLO.out hA)
            clear hA
            go_wp2_with fail
            refine (CLO.out _ HBw.out).mono ?_
            intro e w9 h9
            obtain ⟨v9, rfl, hown9, hb9⟩ := h9
            obtain ⟨a18, c18, rfl⟩ := kown_form hown9
            have HB9 := hide hb9
            have HK9 := hide (own_kps hown9 rfl)
            clear hown9 hb9
            go_wp2_with fail
            go_meet
            case rel => exact ⟨a18, LA.length, c18, rfl, HB9.out, fun _ => ⟨rfl, HK9.out⟩⟩
          · have hA' : (AW == 0) = false := by simp [hA]
            have HA := hide hA
            clear hA
            go_wp2_with fail
            go_meet
            case rel => exact ⟨none, 0, 0, rfl, Below.refl _ _, fun h => absurd h HA.out⟩
        case rest =>
          obtain ⟨ad, m2, cd, rfl, HD⟩ := hcut
          obtain ⟨W9, hW9⟩ : ∃ W9, W9 = wc := ⟨_, rfl⟩
          subst hW9
          have HBw := hide (below_start HBw.out HD.out.1)
          have HK8 := hide (HK7.out.below HD.out.1)
          have HJ8 := hide (HJ7.out.below HD.out.1)
          have HX8 := hide ((HD.out.1.block _ (Array.getElem?_eq_some_iff.1 HX7.out).1).trans HX7.out)
          have HY8 := hide ((HD.out.1.block _ (Array.getElem?_eq_some_iff.1 HY7.out).1).trans HY7.out)
          have HM8 : Hid (PE = 0 → m = PA.length ∧ KpsIn W9 ab PA) := fun h => ⟨(HM7.out h).1, (HM7.out h).2.below HD.out.1⟩
          have HN8 := hide HD.out.2
          clear HK7 HJ7 HX7 HY7 HM7 HD CLO
          go_wp2_with fail
          refine (CB.out _ HBw.out).mono ?_
          rintro e wA ⟨rfl, hbA⟩
          have HBA := hide (below_start HBw.out hbA)
          have HBB := hide hbA
          clear hbA CB HBw
          go_wp2_with fail
          refine (CC.out _ HBA.out).mono ?_
          rintro e wB ⟨rfl, hbB⟩
          have HBA := hide (below_start HBA.out hbB)
          have HBB := hide (below_start HBB.out hbB)
          clear hbB CC
          go_wp2_with fail
          refine (CR.out _ HBA.out).mono ?_
          rintro e wC ⟨rfl, hbC⟩
          have HBA := hide (below_start HBA.out hbC)
          have HBB := hide (below_start HBB.out hbC)
          clear hbC CR
          go_wp2_with fail
          refine (keptAre_yes PA PE a7 ab c7 cb m _ (HK8.out.below HBB.out) (fun h => ⟨(HM8.out h).1, (HM8.out h).2.below HBB.out⟩) HPL16.out HPn.out).mono ?_
          rintro e wD ⟨rfl, hbD⟩
          have HBA := hide (below_start HBA.out hbD)
          have HBB := hide (below_start HBB.out hbD)
          have HXD := (HBB.out.block _ (Array.getElem?_eq_some_iff.1 HX8.out).1).trans HX8.out
          have HYD := (HBB.out.block _ (Array.getElem?_eq_some_iff.1 HY8.out).1).trans HY8.out
          have xD : ∀ q, wD.cell? ⟨b9, q, none⟩ = (#[.string gt, .string gp, .int .i64 gv] : Array Value)[q]? := fun q => Lib.cell_of_heap HXD q
          have yD : ∀ q, wD.cell? ⟨b19, q, none⟩ = (#[.string gt, .string gp, .int .i64 gv] : Array Value)[q]? := fun q => Lib.cell_of_heap HYD q
          clear hbD HXD HYD HK8 HM8 HX8 HY8
          go_wp2_with fail
          refine (keptAre_yes LA AW a11 ad c11 cd m2 _ (HJ8.out.below HBB.out) (fun h => ⟨(HN8.out h).1, (HN8.out h).2.below HBB.out⟩) HLL16.out HLn.out).mono ?_
          rintro e wE ⟨rfl, hbE⟩
          have HBE := hide (below_start HBA.out hbE)
          clear hbE
          go_wp2
          go_ret
          exact ⟨rfl, HBE.out⟩

theorem keepTells_lift {w : World} (l : List Kp) (ao : Option Addr) (co : Nat) (hl : KpsIn w ao l) (n p : ByteArray) (hm : Max w) (hs : ∀ k ∈ l, k.topic.size ≤ 1048576) (hn : n.size ≤ 1048576) (_ : p.size ≤ 1048576) :
    Calls Tryd.prog 3 #[.slice ao l.length co, .string n, .string p] w fun e w' => e = .returned (.bool true) ∧ Below w.heap.size w w' := keepTells_walk l ao co n p w hl hm hs hn
end Go.Proofs.YtcldjoklkbbbgadDoor
