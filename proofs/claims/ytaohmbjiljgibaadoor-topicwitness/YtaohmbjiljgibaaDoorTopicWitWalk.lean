/-
  The walk of dragomanlaw.TopicWitness: it answers true, whatever it is handed.
-/
import Derived.Test.YtaohmbjiljgibaaDoorTopicWitMath
import Derived.Test.YtaohmbjiljgibaaDoorTopicForRef
import Derived.Laws.AppendOwnNone
namespace Go.Proofs.YtaohmbjiljgibaaDoor
open Go.RowKit Go.PlainAid

/-- what the law lays ahead of its loops: the levels, the plain levels, the tails -/
structure LaidW (wr : World) (g gp gt h1 h2 h3 base : Nat) (B : List ByteArray) : Prop where
  lev : Lies wr g B
  pl : ∀ i, i < 3 → wr.cell? ⟨gp, i, none⟩ = some (.string (plainP i))
  t0 : wr.cell? ⟨gt, 0, none⟩ = some (.slice none 0 0)
  t1 : wr.cell? ⟨gt, 1, none⟩ = some (.slice (some ⟨h1, 0, none⟩) 1 1)
  t2 : wr.cell? ⟨gt, 2, none⟩ = some (.slice (some ⟨h2, 0, none⟩) 2 2)
  t3 : wr.cell? ⟨gt, 3, none⟩ = some (.slice (some ⟨h3, 0, none⟩) 1 1)
  c1 : wr.cell? ⟨h1, 0, none⟩ = some (.string ⟨#[33]⟩)
  c2 : wr.cell? ⟨h2, 0, none⟩ = some (.string ⟨#[33]⟩)
  c2' : wr.cell? ⟨h2, 1, none⟩ = some (.string ⟨#[33]⟩)
  c3 : wr.cell? ⟨h3, 0, none⟩ = some (.string ⟨#[126]⟩)
  lt : g < base ∧ gp < base ∧ gt < base ∧ h1 < base ∧ h2 < base ∧ h3 < base
  le : base ≤ wr.heap.size
theorem LaidW.below {wr w' : World} {g gp gt h1 h2 h3 base : Nat} {B : List ByteArray} (h : LaidW wr g gp gt h1 h2 h3 base B) (hb : Below base wr w') : LaidW w' g gp gt h1 h2 h3 base B where
  lev := h.lev.below hb h.lt.1
  pl := fun i hi => by rw [hb.cell (by exact h.lt.2.1)]; exact h.pl i hi
  t0 := by rw [hb.cell (by exact h.lt.2.2.1)]; exact h.t0
  t1 := by rw [hb.cell (by exact h.lt.2.2.1)]; exact h.t1
  t2 := by rw [hb.cell (by exact h.lt.2.2.1)]; exact h.t2
  t3 := by rw [hb.cell (by exact h.lt.2.2.1)]; exact h.t3
  c1 := by rw [hb.cell (by exact h.lt.2.2.2.1)]; exact h.c1
  c2 := by rw [hb.cell (by exact h.lt.2.2.2.2.1)]; exact h.c2
  c2' := by rw [hb.cell (by exact h.lt.2.2.2.2.1)]; exact h.c2'
  c3 := by rw [hb.cell (by exact h.lt.2.2.2.2.2)]; exact h.c3
  lt := h.lt
  le := Nat.le_trans h.le hb.size

theorem LaidW.tail {wr : World} {g gp gt h1 h2 h3 base : Nat} {B : List ByteArray} (h : LaidW wr g gp gt h1 h2 h3 base B) (k : Nat) (hk : 1 ≤ k) (hk4 : k < 4) :
    ∃ hh, wr.cell? ⟨gt, k, none⟩ = some (.slice (some ⟨hh, 0, none⟩) (tailT k).length (tailT k).length) ∧ Lies wr hh (tailT k) := by
  match k, hk, hk4 with
  | 1, _, _ =>
    refine ⟨h1, h.t1, fun j hj => ?_⟩
    match j, hj with
    | 0, _ => exact h.c1
  | 2, _, _ =>
    refine ⟨h2, h.t2, fun j hj => ?_⟩
    match j, hj with
    | 0, _ => exact h.c2
    | 1, _ => exact h.c2'
  | 3, _, _ =>
    refine ⟨h3, h.t3, fun j hj => ?_⟩
    match j, hj with
    | 0, _ => exact h.c3

/-- the world behind the set-up -/
def setUp (w : World) : World := ((((w.alloc (.cells #[.string ⟨#[]⟩, .string ⟨#[33]⟩, .string ⟨#[126]⟩] 9)).alloc (.cells #[.string ⟨#[33]⟩] 9)).alloc (.cells #[.string ⟨#[33]⟩, .string ⟨#[33]⟩] 9)).alloc (.cells #[.string ⟨#[126]⟩] 9)).alloc
  (.cells #[.slice none 0 0, .slice (some ⟨w.heap.size + 1, 0, none⟩) 1 1, .slice (some ⟨w.heap.size + 1 + 1, 0, none⟩) 2 2, .slice (some ⟨w.heap.size + 1 + 1 + 1, 0, none⟩) 1 1] 30)

theorem setUp_below (w : World) : Below w.heap.size w (setUp w) :=
  (((((Below.refl _ w).alloc (Nat.le_refl _) _).alloc (by simp) _).alloc (by simp; omega) _).alloc (by simp; omega) _).alloc (by simp; omega) _

theorem laid_start {w : World} {g : Nat} {B : List ByteArray} (hL : Lies w g B) (hg : g < w.heap.size) :
    LaidW (setUp w) g w.heap.size (w.heap.size + 1 + 1 + 1 + 1) (w.heap.size + 1) (w.heap.size + 1 + 1) (w.heap.size + 1 + 1 + 1) (w.heap.size + 5) B where
  lev := hL.below (setUp_below w) hg
  pl := fun i hi => by
    match i, hi with
    | 0, _ => simp [setUp, plainP, go_sem]
    | 1, _ => simp [setUp, plainP, go_sem]
    | 2, _ => simp [setUp, plainP, go_sem]
  t0 := by simp [setUp, go_sem]
  t1 := by simp [setUp, go_sem]
  t2 := by simp [setUp, go_sem]
  t3 := by simp [setUp, go_sem]
  c1 := by simp [setUp, go_sem]
  c2 := by simp [setUp, go_sem]
  c2' := by simp [setUp, go_sem]
  c3 := by simp [setUp, go_sem]
  lt := by omega
  le := by simp [setUp]

theorem lies_cells {w : World} {hh : Nat} {L : List ByteArray} (h : Lies w hh L) : ∀ j u, (L.map Value.string)[j]? = some u → w.cell? ((⟨hh, 0, none⟩ : Addr).add j) = some u := by
  intro j u hu
  rw [List.getElem?_map] at hu
  obtain ⟨y, hy, rfl⟩ := Option.map_eq_some_iff.1 hu
  have hj : j < L.length := by
    rcases Nat.lt_or_ge j L.length with e | e
    · exact e
    · rw [List.getElem?_eq_none e] at hy; cases hy
  rw [List.getElem?_eq_getElem hj] at hy
  have e := h j hj
  rw [Option.some.inj hy] at e
  have hplain : (⟨hh, 0, none⟩ : Addr).add j = ⟨hh, j, none⟩ := by unfold Addr.add; split <;> simp_all
  rw [hplain]; exact e

set_option maxHeartbeats 4000000 in
set_option maxRecDepth 100000 in
theorem topicWitness_walk (a b : ByteArray) (w : World) (hm : Max w) :
    Calls Tryd.prog 6 #[.string a, .string b] w fun e w' => e = .returned (.bool true) ∧ Below w.heap.size w w' := by
  obtain ⟨i0, hi0, hz0, hz1, hz2⟩ := info_parts info_str
  go_enter Tryd.func6, Tryd.ntmps6
  go_wp2_with fail
  refine (covers_any a b _ hm).mono ?_
  rintro e w1 ⟨rfl, hb1⟩
  have HM1 := hide (hm.below hb1)
  go_wp2_with fail
  refine (topicBegun_yes _ HM1.out).mono ?_
  rintro e w2 ⟨rfl, hb2⟩
  have HB2 := hide (below_step hb1 hb2)
  clear hb1 hb2 HM1
  by_cases he : covE a b = 0
  · have he1 : (covE a b != 0) = false := by simp [he]
    obtain ⟨ha, hb⟩ := cov_both he
    cases hx : covB a b with
    | true =>
      clear he ha hb
      go_wp2
      go_ret
      exact ⟨rfl, HB2.out⟩
    | false =>
      obtain ⟨I, K, hI, hK, hW⟩ := wit_exists ha hb hx
      have HW := hide hW
      have HA := hide ha
      have HB := hide hb
      obtain ⟨s1, _, s2, _⟩ := chk_ok hb
      have HS := hide s1
      have HN := hide s2
      clear he ha hb hW s1 s2
      go_wp2_with fail
      refine (levelsOf_any b _ (by have := HS.out; omega)).mono ?_
      rintro e w3 ⟨g, cap, rfl, hcap, hcells, hb3⟩
      have HB3 := hide (below_step HB2.out hb3)
      have HL : Hid (Lies w3 g (LV b)) := hcells
      clear hcells hb3 HB2
      have HLA := hide (laid_start HL.out (Lies.lt HL.out))
      have HBS := hide (below_step HB3.out (setUp_below w3))
      have hw3 : w.heap.size ≤ w3.heap.size := HB3.out.size
      have hlb : ((LV b).length : Int) ≤ 6 := by have := HN.out; omega
      have HSZ := hide (fun x hx => Nat.le_trans (lvS_size b x hx) HS.out)
      have HNM : Hid (∀ i k, nmL b i k = substL (plainP i) (tailT k) (LV b)) := fun i k => rfl
      have HNN : Hid (∀ i k, nm b i k = joinTo (nmL b i k) (nmL b i k).length) := fun i k => rfl
      clear HL HB3
      go_wp2_with fail
      generalize LV b = B at *
      go_loopw [10] (fun v wr => ∃ i : Nat, i ≤ I ∧ v = .int .i64 i ∧ Hid (LaidW wr g w3.heap.size (w3.heap.size + 1 + 1 + 1 + 1) (w3.heap.size + 1) (w3.heap.size + 1 + 1) (w3.heap.size + 1 + 1 + 1) (w3.heap.size + 5) B) ∧ Hid (Below w.heap.size w wr)) (fun v _ => 3 - (intOf v).toNat)
      case atStart => exact ⟨0, Nat.zero_le _, rfl, HLA, HBS⟩
      case round =>
        clear HLA HBS
        obtain ⟨i, hi, rfl, HLA, HBS⟩ := hrel
        have hi3 : (i : Int) < 3 := by omega
        go_wp2
        go_loopw [11] (fun v wr => ∃ k : Nat, k ≤ 4 ∧ (i = I → k ≤ K) ∧ v = .int .i64 k ∧ Hid (LaidW wr g w3.heap.size (w3.heap.size + 1 + 1 + 1 + 1) (w3.heap.size + 1) (w3.heap.size + 1 + 1) (w3.heap.size + 1 + 1 + 1) (w3.heap.size + 5) B) ∧ Hid (Below w.heap.size w wr)) (fun v _ => 4 - (intOf v).toNat)
        case atStart => exact ⟨0, by omega, fun _ => Nat.zero_le _, rfl, HLA, HBS⟩
        case round =>
          clear HLA HBS
          rename_i wr0 _ _
          obtain ⟨k, hk, hkK, rfl, HLA, HBS⟩ := hrel
          have HKK := hide hkK
          clear hkK
          by_cases hk4 : k < 4
          · have hk4' : (k : Int) < 4 := by omega
            go_wp2
            go_loopw [12, 13] (fun v vn wr => ∃ n : Nat, n ≤ B.length ∧ vn = .int .i64 n ∧ wr.ownsRow (w3.heap.size + 5) 9 1 v (substL (plainP i) (tailT k) (B.take n)).length ((substL (plainP i) (tailT k) (B.take n)).map Value.string) ∧ Hid (LaidW wr g w3.heap.size (w3.heap.size + 1 + 1 + 1 + 1) (w3.heap.size + 1) (w3.heap.size + 1 + 1) (w3.heap.size + 1 + 1 + 1) (w3.heap.size + 5) B) ∧ Hid (Below w.heap.size w wr)) (fun _ vn _ => B.length - (intOf vn).toNat)
            case atStart => exact ⟨0, Nat.zero_le _, rfl, World.ownsRow_nil _ _ _ _, HLA, HBS⟩
            case round =>
              clear HLA HBS
              obtain ⟨n, hn, rfl, hown, HLA, HBS⟩ := hrel
              have HLEN := hide (subst_len (plainP i) (tailT k) (B.take n) (tailT_len k))
              by_cases hnB : n < B.length
              · have hnB' : (n : Int) < (B.length : Int) := by omega
                have cx := HLA.out.lev n hnB
                have HT := hide (subst_take (plainP i) (tailT k) B hnB)
                have H12 : Hid ((substL (plainP i) (tailT k) (B.take n)).length ≤ 12) := by
                  have h1 := HLEN.out
                  have h2 := HN.out
                  rw [List.length_take] at h1
                  show _ ≤ 12
                  omega
                generalize B[n] = x at *
                generalize substL (plainP i) (tailT k) (B.take n) = S at *
                clear HLEN
                by_cases hx1 : x = ⟨#[43]⟩
                · have e1 : (x.toList == [43]) = true := txt_yes hx1
                  have HX := hide hx1
                  have cp := HLA.out.pl i (by omega)
                  clear hx1
                  go_wp2_with (at_builtin; refine wpList_append_own _ rfl _ _ 30 rfl (w3.heap.size + 5) 9 i0 (.string ByteArray.empty) 1 16 Tryd.underlying30 hi0 hz0 hz1 hz2 rfl (by decide) _ _ _ rfl (hown.alloc _) ⟨wr.heap.size, 0, none⟩ 1 1 [.string (plainP i)] rfl rfl ?c1 ?c2 ?c3 ?c4 ?c5 ?_)
                  case c1 => exact cell_one_new _ _ _
                  case c2 => intro u hu; simp at hu; subst hu; rfl
                  case c3 => have := H12.out; unfold maxLen; omega
                  case c4 => have := H12.out; omega
                  case c5 => have := HLA.out.le; simp; omega
                  intro v' w1 hown' hgrow _
                  have hbl : Below (w3.heap.size + 5) wr w1 := ((Below.refl _ wr).alloc HLA.out.le _).grown hgrow (by have := HLA.out.le; simp; omega) (fun q hq => (hown.lt q hq).1)
                  have hown2 : w1.ownsRow (w3.heap.size + 5) 9 1 v' (substL (plainP i) (tailT k) (B.take (n + 1))).length ((substL (plainP i) (tailT k) (B.take (n + 1))).map Value.string) := by
                    rw [HT.out, HX.out, subst_plus, subst_nil]; simpa using hown'
                  have HLA2 := hide (HLA.out.below hbl)
                  have HBS2 := hide (HBS.out.trans (hbl.mono (by omega)))
                  clear hown hown' hgrow hbl HLA HBS
                  go_wp2
                  go_roundw
                  case rel => exact ⟨n + 1, by omega, by go_num, hown2, HLA2, HBS2⟩
                  case measure => simp [intOf]; omega
                · have e1 : (x.toList == [43]) = false := txt_no hx1
                  by_cases hx2 : x = ⟨#[35]⟩
                  · have e2 : (x.toList == [35]) = true := txt_yes hx2
                    have HX := hide hx2
                    clear hx1 hx2
                    by_cases hk0 : k = 0
                    · subst hk0
                      have ct := HLA.out.t0
                      go_wp2_with (at_builtin; refine wpList_append_own_none rfl _ _ 30 rfl (w3.heap.size + 5) 9 i0 1 Tryd.underlying30 hi0 _ _ _ rfl hown rfl ?_)
                      have hown2 : wr.ownsRow (w3.heap.size + 5) 9 1 u12 (substL (plainP i) (tailT 0) (B.take (n + 1))).length ((substL (plainP i) (tailT 0) (B.take (n + 1))).map Value.string) := by
                        rw [HT.out, HX.out, subst_hash, subst_nil]; simpa [tailT] using hown
                      clear hown
                      go_wp2
                      go_roundw
                      case rel => first | exact ⟨n + 1, by omega, by go_num, hown2, HLA, HBS⟩ | ((repeat apply Exists.intro); exact ⟨⟨n + 1, by omega, by go_num, hown2, HLA, HBS⟩, rfl⟩)
                      case measure => simp [intOf]; omega
                    · obtain ⟨hh, ct, hlt⟩ := HLA.out.tail k (by omega) hk4
                      have HLT := hide hlt
                      clear hlt
                      go_wp2_with (at_builtin; refine wpList_append_own _ rfl _ _ 30 rfl (w3.heap.size + 5) 9 i0 (.string ByteArray.empty) 1 16 Tryd.underlying30 hi0 hz0 hz1 hz2 rfl (by decide) _ _ _ rfl hown ⟨hh, 0, none⟩ (tailT k).length (tailT k).length ((tailT k).map Value.string) rfl (by simp) ?d1 ?d2 ?d3 ?d4 ?d5 ?_)
                      case d1 => exact lies_cells HLT.out
                      case d2 => intro u hu; obtain ⟨y, _, rfl⟩ := List.mem_map.1 hu; rfl
                      case d3 => have := H12.out; have := tailT_len k; unfold maxLen; omega
                      case d4 => have := H12.out; have := tailT_len k; omega
                      case d5 => have := HLA.out.le; omega
                      intro v' w1 hown' hgrow _
                      have hbl : Below (w3.heap.size + 5) wr w1 := (Below.refl _ wr).grown hgrow HLA.out.le (fun q hq => (hown.lt q hq).1)
                      have hown2 : w1.ownsRow (w3.heap.size + 5) 9 1 v' (substL (plainP i) (tailT k) (B.take (n + 1))).length ((substL (plainP i) (tailT k) (B.take (n + 1))).map Value.string) := by
                        rw [HT.out, HX.out, subst_hash, subst_nil]; simpa using hown'
                      have HLA2 := hide (HLA.out.below hbl)
                      have HBS2 := hide (HBS.out.trans (hbl.mono (by omega)))
                      clear hown hown' hgrow hbl HLA HBS
                      go_wp2
                      go_roundw
                      case rel => exact ⟨n + 1, by omega, by go_num, hown2, HLA2, HBS2⟩
                      case measure => simp [intOf]; omega
                  · have e2 : (x.toList == [35]) = false := txt_no hx2
                    have HX := hide (subst_lit (plainP i) (tailT k) [] hx1 hx2)
                    clear hx1 hx2
                    go_wp2_with (at_builtin; refine wpList_append_own _ rfl _ _ 30 rfl (w3.heap.size + 5) 9 i0 (.string ByteArray.empty) 1 16 Tryd.underlying30 hi0 hz0 hz1 hz2 rfl (by decide) _ _ _ rfl (hown.alloc _) ⟨wr.heap.size, 0, none⟩ 1 1 [.string x] rfl rfl ?e1 ?e2 ?e3 ?e4 ?e5 ?_)
                    case e1 => exact cell_one_new _ _ _
                    case e2 => intro u hu; simp at hu; subst hu; rfl
                    case e3 => have := H12.out; unfold maxLen; omega
                    case e4 => have := H12.out; omega
                    case e5 => have := HLA.out.le; simp; omega
                    intro v' w1 hown' hgrow _
                    have hbl : Below (w3.heap.size + 5) wr w1 := ((Below.refl _ wr).alloc HLA.out.le _).grown hgrow (by have := HLA.out.le; simp; omega) (fun q hq => (hown.lt q hq).1)
                    have hown2 : w1.ownsRow (w3.heap.size + 5) 9 1 v' (substL (plainP i) (tailT k) (B.take (n + 1))).length ((substL (plainP i) (tailT k) (B.take (n + 1))).map Value.string) := by
                      rw [HT.out, HX.out, subst_nil]; simpa using hown'
                    have HLA2 := hide (HLA.out.below hbl)
                    have HBS2 := hide (HBS.out.trans (hbl.mono (by omega)))
                    clear hown hown' hgrow hbl HLA HBS
                    go_wp2
                    go_roundw
                    case rel => exact ⟨n + 1, by omega, by go_num, hown2, HLA2, HBS2⟩
                    case measure => simp [intOf]; omega
              · have hnB' : ¬ (n : Int) < (B.length : Int) := by omega
                have hown2 : wr.ownsRow (w3.heap.size + 5) 9 1 u12 (nmL b i k).length ((nmL b i k).map Value.string) := by
                  rw [HNM.out i k]; rwa [List.take_of_length_le (show B.length ≤ n by omega)] at hown
                have HL12 : Hid ((nmL b i k).length ≤ 12) := by
                  have h1 := subst_len (plainP i) (tailT k) B (tailT_len k)
                  have h2 := HN.out
                  rw [Hid, HNM.out i k]; omega
                have HS60 : Hid (∀ x ∈ nmL b i k, x.size ≤ 60) := by
                  rw [Hid, HNM.out i k]
                  exact subst_size (Nat.le_trans (plainP_size i) (by omega)) (tailT_size k) HSZ.out
                have HJ := hide (HNN.out i k)
                have HIK : Hid (¬ (i = I ∧ k = K) ∨ Wit a b i k) := by
                  by_cases e : i = I ∧ k = K
                  · right; rw [e.1, e.2]; exact HW.out
                  · exact .inl e
                clear hown HLEN
                generalize nmL b i k = N at *
                rcases hown2.2 with ⟨hv, h0⟩ | ⟨gl, capl, cur, hv, _, _, _⟩
                · subst hv
                  have hN0 : N = [] := List.length_eq_zero_iff.1 h0
                  have HE : Hid (nm b i k = ⟨#[]⟩) := by rw [Hid, HJ.out, hN0]; rfl
                  have hnext : i = I → k + 1 ≤ K := by
                    intro e
                    have h1 := HKK.out e
                    rcases HIK.out with h | h
                    · have : k ≠ K := fun e2 => h ⟨e, e2⟩
                      omega
                    · have := h.1; rw [HE.out] at this; exact absurd this (by decide +kernel)
                  have HNX := hide hnext
                  clear hnext hown2 hN0
                  go_wp2_with fail
                  refine wp_loop_rounds 1 ?_
                  rw [rounds_succ]
                  go_wp2_with fail
                  refine (name_max _ _ (hm.below HBS.out)).mono ?_
                  rintro e w5 ⟨rfl, hb5⟩
                  have q1 : chk nameF ⟨#[]⟩ = 1 := by decide +kernel
                  have HLA2 := hide (HLA.out.below (hb5.mono HLA.out.le))
                  have HBS2 := hide (below_step HBS.out hb5)
                  clear hb5 HLA HBS
                  go_wp2
                  go_roundw
                  case rel => exact ⟨k + 1, by omega, HNX.out, by go_num, HLA2, HBS2⟩
                  case measure => simp [intOf]; omega
                · subst hv
                  have HC : Hid (Lies wr gl N) := fun q hq => by rw [hown2.cellAt q (by omega)]; simp [List.getElem?_eq_getElem hq]
                  have hl12 : (N.length : Int) ≤ 12 := by have := HL12.out; omega
                  clear hown2
                  go_wp2_with fail
                  go_loop [14, 15] (fun sv vn => ∃ q : Nat, q ≤ N.length ∧ vn = .int .i64 q ∧ sv = .string (joinTo N q)) (fun _ vn => N.length - (intOf vn).toNat)
                  case atStart => exact ⟨0, Nat.zero_le _, rfl, rfl⟩
                  case round =>
                    obtain ⟨q, hq, rfl, rfl⟩ := hrel
                    by_cases hqN : q < N.length
                    · have hqN' : (q : Int) < (N.length : Int) := by omega
                      have cq := HC.out q hqN
                      have hx60 := HS60.out N[q] (List.getElem_mem _)
                      have hj := joinTo_size N HS60.out q
                      have hj2 : (joinTo N q).size ≤ 800 := by omega
                      clear hj
                      by_cases hq0 : q = 0
                      · subst hq0
                        have HF := hide (joinTo_first N hqN)
                        generalize N[0] = y at *
                        have hnil : ∀ z : ByteArray, joinTo N 0 ++ z = z := fun z => by apply ByteArray.ext; apply Array.toList_inj.1; simp [joinTo]
                        go_wp2
                        go_round
                        case rel => exact ⟨1, by omega, by go_num, by rw [HF.out]⟩
                        case measure => simp [intOf]; omega
                      · have hq0' : 0 < (q : Int) := by omega
                        have HF := hide (joinTo_next N (show 0 < q by omega) hqN)
                        generalize N[q] = y at *
                        generalize joinTo N q = jj at *
                        have e47 : (⟨#[47]⟩ : ByteArray).size = 1 := rfl
                        go_wp2
                        go_round
                        case rel => exact ⟨q + 1, by omega, by go_num, by rw [HF.out]⟩
                        case measure => simp [intOf]; omega
                    · have hqN' : ¬ (q : Int) < (N.length : Int) := by omega
                      have HQ : Hid (joinTo N q = nm b i k) := by rw [Hid, HJ.out, show q = N.length by omega]
                      generalize joinTo N q = jj at *
                      obtain rfl : jj = nm b i k := HQ.out
                      clear HQ
                      go_wp2_with fail
                      refine (name_max _ _ (hm.below HBS.out)).mono ?_
                      rintro e w5 ⟨rfl, hb5⟩
                      have HLA2 := hide (HLA.out.below (hb5.mono HLA.out.le))
                      have HBS2 := hide (below_step HBS.out hb5)
                      clear hb5 HLA HBS
                      by_cases hE : chk nameF (nm b i k) = 0
                      · have hE1 : (chk nameF (nm b i k) != 0) = false := by simp [hE]
                        have q1 : matchE a (nm b i k) = 0 := by rw [matchE_ok HA.out, hE]
                        have q2 : matchE b (nm b i k) = 0 := by rw [matchE_ok HB.out, hE]
                        clear hE
                        go_wp2_with fail
                        refine (match_any a (nm b i k) _ (hm.below HBS2.out)).mono ?_
                        rintro e w6 ⟨rfl, hb6⟩
                        have HLA3 := hide (HLA2.out.below (hb6.mono HLA2.out.le))
                        have HBS3 := hide (below_step HBS2.out hb6)
                        clear hb6 HLA2 HBS2
                        go_wp2_with fail
                        refine (match_any b (nm b i k) _ (hm.below HBS3.out)).mono ?_
                        rintro e w7 ⟨rfl, hb7⟩
                        have HLA4 := hide (HLA3.out.below (hb7.mono HLA3.out.le))
                        have HBS4 := hide (below_step HBS3.out hb7)
                        clear hb7 HLA3 HBS3
                        cases hmb : matchB b (nm b i k) with
                        | false =>
                          have hnext : i = I → k + 1 ≤ K := by
                            intro e
                            have h1 := HKK.out e
                            rcases HIK.out with h | h
                            · have : k ≠ K := fun e2 => h ⟨e, e2⟩
                              omega
                            · exact absurd h.2.1 (by rw [hmb]; decide)
                          have HNX := hide hnext
                          clear hnext
                          go_wp2
                          go_roundw
                          case rel => exact ⟨k + 1, by omega, HNX.out, by go_num, HLA4, HBS4⟩
                          case measure => simp [intOf]; omega
                        | true =>
                          cases hma : matchB a (nm b i k) with
                          | true =>
                            have hnext : i = I → k + 1 ≤ K := by
                              intro e
                              have h1 := HKK.out e
                              rcases HIK.out with h | h
                              · have : k ≠ K := fun e2 => h ⟨e, e2⟩
                                omega
                              · exact absurd h.2.2 (by rw [hma]; decide)
                            have HNX := hide hnext
                            clear hnext
                            go_wp2
                            go_roundw
                            case rel => exact ⟨k + 1, by omega, HNX.out, by go_num, HLA4, HBS4⟩
                            case measure => simp [intOf]; omega
                          | false =>
                            go_wp2
                            go_ret
                            exact ⟨rfl, HBS4.out⟩
                      · have hE1 : (chk nameF (nm b i k) != 0) = true := by simp [hE]
                        have hnext : i = I → k + 1 ≤ K := by
                          intro e
                          have h1 := HKK.out e
                          rcases HIK.out with h | h
                          · have : k ≠ K := fun e2 => h ⟨e, e2⟩
                            omega
                          · exact absurd h.1 hE
                        have HNX := hide hnext
                        clear hnext hE
                        go_wp2
                        go_roundw
                        case rel => exact ⟨k + 1, by omega, HNX.out, by go_num, HLA2, HBS2⟩
                        case measure => simp [intOf]; omega
          · have hk4' : ¬ (k : Int) < 4 := by omega
            have hne : i < I := by
              by_cases e : i = I
              · have := HKK.out e; omega
              · omega
            go_wp2
            go_roundw
            case rel => exact ⟨i + 1, by omega, by go_num, HLA, HBS⟩
            case measure => simp [intOf]; omega
  · have he1 : (covE a b != 0) = true := by simp [he]
    clear he
    go_wp2
    go_ret
    exact ⟨rfl, HB2.out⟩
end Go.Proofs.YtaohmbjiljgibaaDoor
