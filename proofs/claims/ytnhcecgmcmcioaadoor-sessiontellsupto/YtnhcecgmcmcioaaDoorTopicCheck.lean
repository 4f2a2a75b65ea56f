/-
  topic.isPlain, the two function literals of Name and Filter, levels: what they answer.
-/
import Derived.Test.YtnhcecgmcmcioaaDoorTopicMath
import Derived.Test.YtnhcecgmcmcioaaDoorShelf
import Derived.Test.YtnhcecgmcmcioaaDoorRows
import Derived.WalkKit
import Derived.ProofKit
import Derived.WalkSpells
import Derived.WalkLawsBesides
import Derived.Handy
namespace Go.Proofs.YtnhcecgmcmcioaaDoor
open Go.RowKit Go.PlainAid

set_option maxHeartbeats 1000000 in
theorem isPlain_any (s : ByteArray) (w : World) (hs : s.size ≤ maxLen) :
    Calls Tryd.prog 69 #[.string s] w fun e w' => e = .returned (.bool (plain s)) ∧ w' = w := by
  unfold maxLen at hs
  have hbt := get_bt s
  go_enter Tryd.func69, Tryd.ntmps69
  go_wp2
  go_loop [3] (fun i => ∃ k : Nat, k ≤ s.size ∧ i = .int .i64 k ∧ Hid (plainTo s k = true)) (fun i => s.size - (intOf i).toNat)
  case atStart => exact ⟨0, Nat.zero_le _, rfl, rfl⟩
  case round =>
    obtain ⟨k, hk, rfl, HP⟩ := hrel
    have hb0 := bt_nonneg s k
    have hb1 := bt_le s k
    by_cases hlt : k < s.size
    · by_cases h1 : bt s k < 33
      · have HR := hide (plain_no hlt (show plainC (bt s k) = false by simp [plainC]; omega))
        go_wp2
        go_ret
        exact ⟨by rw [HR.out]; rfl, rfl⟩
      · have h1' : decide (bt s k < 33) = false := by simp; omega
        by_cases h2 : 126 < bt s k
        · have HR := hide (plain_no hlt (show plainC (bt s k) = false by simp [plainC]; omega))
          go_wp2
          go_ret
          exact ⟨by rw [HR.out]; rfl, rfl⟩
        · have h2' : decide (126 < bt s k) = false := by simp; omega
          by_cases h3 : bt s k = 43
          · have HR := hide (plain_no hlt (show plainC (bt s k) = false by simp [plainC, h3]))
            have h3' : (bt s k == 43) = true := by simp [h3]
            clear h3
            go_wp2
            go_ret
            exact ⟨by rw [HR.out]; rfl, rfl⟩
          · have h3' : (bt s k == 43) = false := by simp [h3]
            by_cases h4 : bt s k = 35
            · have HR := hide (plain_no hlt (show plainC (bt s k) = false by simp [plainC, h4]))
              have h4' : (bt s k == 35) = true := by simp [h4]
              clear h3 h4
              go_wp2
              go_ret
              exact ⟨by rw [HR.out]; rfl, rfl⟩
            · have h4' : (bt s k == 35) = false := by simp [h4]
              have HR := plain_more HP.out (show plainC (bt s k) = true by simp [plainC, h3, h4]; omega)
              have HR := hide HR
              clear h3 h4
              go_wp2
              go_round
              case rel => exact ⟨k + 1, by omega, by go_num, HR⟩
              case measure => simp [intOf]; omega
    · have HE : Hid (plain s = true) := by have e : k = s.size := by omega
                                           subst e; exact HP
      go_wp2
      go_ret
      exact ⟨by rw [HE.out]; rfl, rfl⟩

theorem nameLit_any (l : ByteArray) (b : Bool) (w : World) (hs : l.size ≤ maxLen) :
    Calls Tryd.prog 68 #[.string l, .bool b] w fun e w' => e = .returned (.bool (nameF l b)) ∧ w' = w := by
  go_enter Tryd.func68, Tryd.ntmps68
  go_wp2_with (go_at_call 69; refine (isPlain_any _ _ hs).mono ?_; rintro e w1 ⟨rfl, rfl⟩)
  go_ret
  exact ⟨rfl, rfl⟩

theorem filterLit_any (l : ByteArray) (b : Bool) (w : World) (hs : l.size ≤ maxLen) :
    Calls Tryd.prog 79 #[.string l, .bool b] w fun e w' => e = .returned (.bool (filtF l b)) ∧ w' = w := by
  by_cases h1 : l = ⟨#[43]⟩
  · subst h1
    go_enter Tryd.func79, Tryd.ntmps79
    go_wp2
    go_ret
    exact ⟨rfl, rfl⟩
  · by_cases h2 : l = ⟨#[35]⟩
    · subst h2
      cases b
      · go_enter Tryd.func79, Tryd.ntmps79
        go_wp2_with (go_at_call 69; refine (isPlain_any _ _ hs).mono ?_; rintro e w1 ⟨rfl, rfl⟩)
        go_ret
        exact ⟨rfl, rfl⟩
      · go_enter Tryd.func79, Tryd.ntmps79
        go_wp2
        go_ret
        exact ⟨rfl, rfl⟩
    · have e1 : (l.toList == [43]) = false := txt_no h1
      have e2 : (l.toList == [35]) = false := txt_no h2
      have HR : Hid (filtF l b = plain l) := by simp [Hid, filtF, h1, h2]
      clear h1 h2
      go_enter Tryd.func79, Tryd.ntmps79
      go_wp2_with (go_at_call 69; refine (isPlain_any _ _ hs).mono ?_; rintro e w1 ⟨rfl, rfl⟩)
      go_ret
      exact ⟨by rw [HR.out]; rfl, rfl⟩

theorem levels_any (s : ByteArray) (m : Int) (w : World) (hs : s.size < 4294967281) (hm : w.cell? ⟨0, 0, none⟩ = some (.int .i64 m)) :
    Calls Tryd.prog 75 #[.string s] w fun e w' => e = .returned (.slice (some ⟨w.heap.size, 0, none⟩) (LV s).length (LV s).length) ∧ w' = w.alloc (.cells ((LV s).map Value.string).toArray 9) := by
  have hc := Tryd.strings_Split s ⟨#[47]⟩ m w hs hm (by decide)
  rw [LV_split, LV_length] at hc
  go_enter Tryd.func75, Tryd.ntmps75
  go_wp2_with (go_at_call 78; refine hc.mono ?_; rintro e w1 ⟨rfl, rfl⟩)
  go_ret
  exact ⟨rfl, rfl⟩
end Go.Proofs.YtnhcecgmcmcioaaDoor
/-
  topic.check, Name and Filter: what they answer.
-/
namespace Go.Proofs.YtnhcecgmcmcioaaDoor
open Go.RowKit Go.PlainAid

set_option maxHeartbeats 1000000 in
set_option maxRecDepth 100000 in
theorem check_name (s : ByteArray) (m : Int) (w : World) (hm : w.cell? ⟨0, 0, none⟩ = some (.int .i64 m)) :
    Calls Tryd.prog 67 #[.string s, .func (.func 68) #[] #[]] w fun e w' => e = .returned (.int .i64 (chk nameF s)) ∧ Below w.heap.size w w' := by
  by_cases h0 : s.size = 0
  · have HR := hide (chk_empty nameF h0)
    have hz : (s.toList == []) = true := txt_yes (by apply ByteArray.ext; exact Array.eq_empty_of_size_eq_zero h0)
    clear h0
    go_enter Tryd.func67, Tryd.ntmps67
    go_wp2
    go_ret
    exact ⟨by rw [HR.out]; rfl, Below.refl _ _⟩
  · have hz : (s.toList == []) = false := txt_no (fun e => h0 (by rw [e]; rfl))
    by_cases h1 : 60 < s.size
    · have HR := hide (chk_long nameF h0 h1)
      have h1' : 60 < (s.size : Int) := by omega
      go_enter Tryd.func67, Tryd.ntmps67
      go_wp2
      go_ret
      exact ⟨by rw [HR.out]; rfl, Below.refl _ _⟩
    · have h1' : decide (60 < (s.size : Int)) = false := by simp; omega
      go_enter Tryd.func67, Tryd.ntmps67
      go_wp2_with fail
      refine (levels_any s m _ (by omega) hm).mono ?_
      rintro e w1 ⟨rfl, rfl⟩
      by_cases h2 : 6 < (LV s).length
      · have HR := hide (chk_many nameF h0 h1 h2)
        have h2' : 6 < ((LV s).length : Int) := by omega
        go_wp2
        go_ret
        exact ⟨by rw [HR.out]; rfl, by go_grown⟩
      · have h2' : decide (6 < ((LV s).length : Int)) = false := by simp; omega
        have HC := hide (chk_lv nameF h0 h1 h2)
        have hll : ((LV s).length : Int) ≤ 6 := by omega
        have HSZ := hide (LV_size s (by unfold maxLen; omega))
        generalize LV s = L at *
        clear h2
        go_wp2_with fail
        go_loop [20, 6, 7] (fun i _ _ => ∃ k : Nat, k ≤ L.length ∧ i = .int .i64 k ∧ Hid (okTo nameF L L.length k = true)) (fun i _ _ => L.length - (intOf i).toNat)
        case atStart => exact ⟨0, Nat.zero_le _, rfl, rfl⟩
        case round =>
          obtain ⟨k, hk, rfl, HP⟩ := hrel
          by_cases hlt : k < L.length
          · have hxs := HSZ.out L[k] (List.getElem_mem _)
            have HX := hide (okTo_next (p := nameF) hlt HP.out)
            have hbo : ((k : Int) == (L.length : Int) - 1) = (k + 1 == L.length) := by rw [Bool.eq_iff_iff, beq_iff_eq, beq_iff_eq]; omega
            generalize hx : L[k] = x at *
            go_wp2_with fail
            refine (nameLit_any _ _ _ hxs).mono ?_
            rintro e w' ⟨rfl, rfl⟩
            by_cases hp : nameF x (k + 1 == L.length) = true
            · have HX2 := hide (HX.out.trans hp)
              go_wp2_with fail
              go_round
              case rel => exact ⟨k + 1, by omega, by go_num, HX2⟩
              case measure => simp [intOf]; omega
            · have hp2 : nameF x (k + 1 == L.length) = false := by simpa using hp
              have HX2 := hide (okTo_false (n := L.length) hlt (HX.out.trans hp2))
              clear hp
              go_wp2_with fail
              go_ret
              exact ⟨by rw [HC.out, HX2.out]; rfl, by go_grown⟩
          · have HE := okTo_end (show k = L.length by omega) HP
            go_wp2_with fail
            go_ret
            exact ⟨by rw [HC.out, HE.out]; rfl, by go_grown⟩

set_option maxHeartbeats 1000000 in
set_option maxRecDepth 100000 in
theorem check_filter (s : ByteArray) (m : Int) (w : World) (hm : w.cell? ⟨0, 0, none⟩ = some (.int .i64 m)) :
    Calls Tryd.prog 67 #[.string s, .func (.func 79) #[] #[]] w fun e w' => e = .returned (.int .i64 (chk filtF s)) ∧ Below w.heap.size w w' := by
  by_cases h0 : s.size = 0
  · have HR := hide (chk_empty filtF h0)
    have hz : (s.toList == []) = true := txt_yes (by apply ByteArray.ext; exact Array.eq_empty_of_size_eq_zero h0)
    clear h0
    go_enter Tryd.func67, Tryd.ntmps67
    go_wp2
    go_ret
    exact ⟨by rw [HR.out]; rfl, Below.refl _ _⟩
  · have hz : (s.toList == []) = false := txt_no (fun e => h0 (by rw [e]; rfl))
    by_cases h1 : 60 < s.size
    · have HR := hide (chk_long filtF h0 h1)
      have h1' : 60 < (s.size : Int) := by omega
      go_enter Tryd.func67, Tryd.ntmps67
      go_wp2
      go_ret
      exact ⟨by rw [HR.out]; rfl, Below.refl _ _⟩
    · have h1' : decide (60 < (s.size : Int)) = false := by simp; omega
      go_enter Tryd.func67, Tryd.ntmps67
      go_wp2_with fail
      refine (levels_any s m _ (by omega) hm).mono ?_
      rintro e w1 ⟨rfl, rfl⟩
      by_cases h2 : 6 < (LV s).length
      · have HR := hide (chk_many filtF h0 h1 h2)
        have h2' : 6 < ((LV s).length : Int) := by omega
        go_wp2
        go_ret
        exact ⟨by rw [HR.out]; rfl, by go_grown⟩
      · have h2' : decide (6 < ((LV s).length : Int)) = false := by simp; omega
        have HC := hide (chk_lv filtF h0 h1 h2)
        have hll : ((LV s).length : Int) ≤ 6 := by omega
        have HSZ := hide (LV_size s (by unfold maxLen; omega))
        generalize LV s = L at *
        clear h2
        go_wp2_with fail
        go_loop [20, 6, 7] (fun i _ _ => ∃ k : Nat, k ≤ L.length ∧ i = .int .i64 k ∧ Hid (okTo filtF L L.length k = true)) (fun i _ _ => L.length - (intOf i).toNat)
        case atStart => exact ⟨0, Nat.zero_le _, rfl, rfl⟩
        case round =>
          obtain ⟨k, hk, rfl, HP⟩ := hrel
          by_cases hlt : k < L.length
          · have hxs := HSZ.out L[k] (List.getElem_mem _)
            have HX := hide (okTo_next (p := filtF) hlt HP.out)
            have hbo : ((k : Int) == (L.length : Int) - 1) = (k + 1 == L.length) := by rw [Bool.eq_iff_iff, beq_iff_eq, beq_iff_eq]; omega
            generalize hx : L[k] = x at *
            go_wp2_with fail
            refine (filterLit_any _ _ _ hxs).mono ?_
            rintro e w' ⟨rfl, rfl⟩
            by_cases hp : filtF x (k + 1 == L.length) = true
            · have HX2 := hide (HX.out.trans hp)
              go_wp2_with fail
              go_round
              case rel => exact ⟨k + 1, by omega, by go_num, HX2⟩
              case measure => simp [intOf]; omega
            · have hp2 : filtF x (k + 1 == L.length) = false := by simpa using hp
              have HX2 := hide (okTo_false (n := L.length) hlt (HX.out.trans hp2))
              clear hp
              go_wp2_with fail
              go_ret
              exact ⟨by rw [HC.out, HX2.out]; rfl, by go_grown⟩
          · have HE := okTo_end (show k = L.length by omega) HP
            go_wp2_with fail
            go_ret
            exact ⟨by rw [HC.out, HE.out]; rfl, by go_grown⟩

theorem name_any (s : ByteArray) (m : Int) (w : World) (hm : w.cell? ⟨0, 0, none⟩ = some (.int .i64 m)) :
    Calls Tryd.prog 56 #[.string s] w fun e w' => e = .returned (.int .i64 (chk nameF s)) ∧ Below w.heap.size w w' := by
  go_enter Tryd.func56, Tryd.ntmps56
  go_wp2_with (go_at_call 67; refine (check_name s m _ hm).mono ?_; rintro e w1 ⟨rfl, hb⟩)
  go_ret
  exact ⟨rfl, hb⟩

theorem filter_any (s : ByteArray) (m : Int) (w : World) (hm : w.cell? ⟨0, 0, none⟩ = some (.int .i64 m)) :
    Calls Tryd.prog 77 #[.string s] w fun e w' => e = .returned (.int .i64 (chk filtF s)) ∧ Below w.heap.size w w' := by
  go_enter Tryd.func77, Tryd.ntmps77
  go_wp2_with (go_at_call 67; refine (check_filter s m _ hm).mono ?_; rintro e w1 ⟨rfl, hb⟩)
  go_ret
  exact ⟨rfl, hb⟩
end Go.Proofs.YtnhcecgmcmcioaaDoor
/-
  topic.takesIn, spelled, Match and Covers: what they answer.
-/
namespace Go.Proofs.YtnhcecgmcmcioaaDoor
open Go.RowKit Go.PlainAid

/-- a filter for the same topics, in which a last # is also for none -/
def spell (s : ByteArray) : ByteArray := if s = ⟨#[35]⟩ then ⟨#[43, 47, 35]⟩ else if s = ⟨#[47, 35]⟩ then ⟨#[47, 43, 47, 35]⟩ else s

theorem spell_size (s : ByteArray) (h : s.size ≤ 60) : (spell s).size ≤ 60 := by
  unfold spell; split
  · decide
  · split
    · decide
    · exact h

/-- what Match answers -/
def matchB (a b : ByteArray) : Bool := decide (chk filtF a = 0) && decide (chk nameF b = 0) && takes (LV a) (LV b)
def matchE (a b : ByteArray) : Int := if chk filtF a = 0 then chk nameF b else chk filtF a
/-- what Covers answers -/
def covB (a b : ByteArray) : Bool := decide (chk filtF a = 0) && decide (chk filtF b = 0) && takes (LV a) (LV (spell b))
def covE (a b : ByteArray) : Int := if chk filtF a = 0 then chk filtF b else chk filtF a

theorem chk_ok {p : ByteArray → Bool → Bool} {s : ByteArray} (h : chk p s = 0) : s.size ≤ 60 ∧ 0 < s.size ∧ (LV s).length ≤ 6 ∧ okTo p (LV s) (LV s).length (LV s).length = true := by
  unfold chk at h
  by_cases h0 : s.size = 0
  · rw [if_pos h0] at h; omega
  · rw [if_neg h0] at h
    by_cases h1 : 60 < s.size
    · rw [if_pos h1] at h; omega
    · rw [if_neg h1] at h
      by_cases h2 : 6 < (LV s).length
      · rw [if_pos h2] at h; omega
      · rw [if_neg h2] at h
        by_cases h3 : okTo p (LV s) (LV s).length (LV s).length = true
        · exact ⟨by omega, by omega, by omega, h3⟩
        · rw [if_neg h3] at h; omega

/-- the cell that the library's search reads: some number -/
def Max (w : World) : Prop := 0 < w.heap.size ∧ ∃ m, w.cell? ⟨0, 0, none⟩ = some (.int .i64 m)
theorem Max.below {w w' : World} (h : Max w) (hb : Below w.heap.size w w') : Max w' := by
  obtain ⟨h0, m, hm⟩ := h
  exact ⟨Nat.lt_of_lt_of_le h0 hb.size, m, by rw [hb.cell (by exact h0)]; exact hm⟩
theorem Max.alloc {w : World} (h : Max w) (o : Obj) : Max (w.alloc o) := h.below ((Below.refl _ w).alloc (Nat.le_refl _) o)

theorem cells_first (w : World) (L K : List ByteArray) (t : TypeId) : ∀ k (h : k < L.length), ((w.alloc (.cells (L.map Value.string).toArray t)).alloc (.cells (K.map Value.string).toArray t)).cell? ⟨w.heap.size, k, none⟩ = some (.string L[k]) := by
  intro k h
  rw [World.cell?_alloc_past _ _ _ (by simp), World.cell?_alloc_at _ _ _ _ rfl]
  simp [List.getElem?_eq_getElem h]
theorem cells_second (w : World) (L K : List ByteArray) (t : TypeId) : ∀ k (h : k < K.length), ((w.alloc (.cells (L.map Value.string).toArray t)).alloc (.cells (K.map Value.string).toArray t)).cell? ⟨w.heap.size + 1, k, none⟩ = some (.string K[k]) := by
  intro k h
  rw [World.cell?_alloc_at _ _ _ _ (by simp)]
  simp [List.getElem?_eq_getElem h]

theorem LV_len60 (s : ByteArray) (h : s.size ≤ 60) : (LV s).length ≤ 61 := by
  have := LV_length s
  have h2 := Lib.countB_le ⟨#[47]⟩ (by decide) s.size s (Nat.le_refl _)
  omega

end Go.Proofs.YtnhcecgmcmcioaaDoor
/-
  topic.Covers: what it answers; dragomanlaw.topicBegun answers true.
-/
namespace Go.Proofs.YtnhcecgmcmcioaaDoor
open Go.RowKit Go.PlainAid

theorem name_max (s : ByteArray) (w : World) (hm : Max w) :
    Calls Tryd.prog 56 #[.string s] w fun e w' => e = .returned (.int .i64 (chk nameF s)) ∧ Below w.heap.size w w' := by
  obtain ⟨m, h⟩ := hm.2; exact name_any s m w h
theorem filter_max (s : ByteArray) (w : World) (hm : Max w) :
    Calls Tryd.prog 77 #[.string s] w fun e w' => e = .returned (.int .i64 (chk filtF s)) ∧ Below w.heap.size w w' := by
  obtain ⟨m, h⟩ := hm.2; exact filter_any s m w h

theorem b_n1 (w : World) (hm : Max w) : Calls Tryd.prog 56 #[.string ⟨#[97, 47, 98]⟩] w fun e w' => e = .returned (.int .i64 0) ∧ Below w.heap.size w w' := by
  have := name_max ⟨#[97, 47, 98]⟩ w hm
  rwa [show chk nameF ⟨#[97, 47, 98]⟩ = 0 by decide +kernel] at this
theorem b_f1 (w : World) (hm : Max w) : Calls Tryd.prog 77 #[.string ⟨#[97, 47, 43, 47, 35]⟩] w fun e w' => e = .returned (.int .i64 0) ∧ Below w.heap.size w w' := by
  have := filter_max ⟨#[97, 47, 43, 47, 35]⟩ w hm
  rwa [show chk filtF ⟨#[97, 47, 43, 47, 35]⟩ = 0 by decide +kernel] at this
theorem b_n2 (w : World) (hm : Max w) : Calls Tryd.prog 56 #[.string ⟨#[97, 47, 43]⟩] w fun e w' => e = .returned (.int .i64 1) ∧ Below w.heap.size w w' := by
  have := name_max ⟨#[97, 47, 43]⟩ w hm
  rwa [show chk nameF ⟨#[97, 47, 43]⟩ = 1 by decide +kernel] at this

end Go.Proofs.YtnhcecgmcmcioaaDoor
/-
  The walk of dragomanlaw.TopicPlain: it answers true, whatever it is handed.
-/
namespace Go.Proofs.YtnhcecgmcmcioaaDoor
open Go.RowKit Go.PlainAid

theorem okTo_all {p : ByteArray → Bool → Bool} {l : List ByteArray} {m : Nat} : ∀ {n : Nat}, n ≤ l.length → okTo p l m n = true → ∀ k, (h : k < n) → (hl : k < l.length) → p l[k] (k + 1 == m) = true
  | 0, _, _, _, h, _ => by omega
  | n + 1, hn, ho, k, h, hl => by
    rw [okTo, Bool.and_eq_true] at ho
    by_cases e : k = n
    · subst e
      have := ho.2
      rwa [List.getD_eq_getElem?_getD, List.getElem?_eq_getElem hl] at this
    · exact okTo_all (by omega) ho.1 k (by omega) hl
theorem okTo_mk {p : ByteArray → Bool → Bool} {l : List ByteArray} {m : Nat} : ∀ {n : Nat}, n ≤ l.length → (∀ k, (h : k < n) → (hl : k < l.length) → p l[k] (k + 1 == m) = true) → okTo p l m n = true
  | 0, _, _ => rfl
  | n + 1, hn, h => by
    rw [okTo, okTo_mk (by omega) (fun k hk hl => h k (by omega) hl), Bool.true_and, List.getD_eq_getElem?_getD, List.getElem?_eq_getElem (by omega)]
    exact h n (by omega) (by omega)

theorem chk_mk {p : ByteArray → Bool → Bool} {s : ByteArray} (h1 : s.size ≤ 60) (h0 : 0 < s.size) (h2 : (LV s).length ≤ 6) (h3 : okTo p (LV s) (LV s).length (LV s).length = true) : chk p s = 0 := by
  rw [chk, if_neg (by omega), if_neg (by omega), if_neg (by omega), if_pos h3]

theorem name_levels {a : ByteArray} (h : chk nameF a = 0) : ∀ x ∈ LV a, plain x = true := by
  intro x hx
  obtain ⟨k, hk, rfl⟩ := List.mem_iff_getElem.1 hx
  exact okTo_all (Nat.le_refl _) (chk_ok h).2.2.2 k hk hk

theorem name_filter {a : ByteArray} (h : chk nameF a = 0) : chk filtF a = 0 := by
  obtain ⟨h1, h0, h2, h3⟩ := chk_ok h
  refine chk_mk h1 h0 h2 (okTo_mk (Nat.le_refl _) fun k _ hl => ?_)
  have := name_levels h (LV a)[k] (List.getElem_mem _)
  simp [filtF, this]

theorem plain_hash {x : ByteArray} (h : plain x = true) : x ≠ ⟨#[35]⟩ := fun e => by subst e; revert h; decide +kernel
theorem plain_plus {x : ByteArray} (h : plain x = true) : x ≠ ⟨#[43]⟩ := fun e => by subst e; revert h; decide +kernel

theorem takes_plain {F O : List ByteArray} (hF : ∀ x ∈ F, plain x = true) (hO : ∀ x ∈ O, plain x = true) : takes F O = decide (F = O) := by
  induction F generalizing O with
  | nil => cases O <;> simp [takes]
  | cons x F ih =>
    have hx := plain_hash (hF x (List.mem_cons_self ..))
    cases O with
    | nil => rw [takes_nil F hx]; simp
    | cons y O =>
      rw [takes_cons y F O hx, if_neg (plain_hash (hO y (List.mem_cons_self ..)))]
      by_cases e : x = y
      · rw [if_neg (fun h => h.2 e), ih (fun z hz => hF z (List.mem_cons_of_mem _ hz)) (fun z hz => hO z (List.mem_cons_of_mem _ hz))]
        simp [e]
      · rw [if_pos ⟨plain_plus (hF x (List.mem_cons_self ..)), e⟩]
        simp [e]

/-- levels, one behind the other -/
def joinL : List (List UInt8) → List UInt8
  | [] => []
  | [x] => x
  | x :: y :: r => x ++ 47 :: joinL (y :: r)

theorem join_lv (l : List UInt8) : joinL (lvL l) = l := by
  induction l with
  | nil => rfl
  | cons c r ih =>
    unfold lvL
    split
    · rename_i hc
      cases e : lvL r with
      | nil => exact absurd e (lvL_ne r)
      | cons h t => rw [joinL, ← e, ih, hc]; rfl
    · split
      · rename_i e; exact absurd e (lvL_ne r)
      · rename_i h t e
        rw [e] at ih
        cases t with
        | nil => rw [joinL] at ih ⊢; rw [ih]
        | cons h' t' => rw [joinL] at ih ⊢; rw [List.cons_append, ih]

theorem LV_inj {a b : ByteArray} (h : LV a = LV b) : a = b := by
  have e : lvL a.data.toList = lvL b.data.toList := by
    unfold LV at h
    have := congrArg (List.map fun s : ByteArray => s.data.toList) h
    simpa [List.map_map, Function.comp_def] using this
  have := congrArg joinL e
  rw [join_lv, join_lv] at this
  exact ByteArray.ext (Array.toList_inj.1 this)

theorem match_plain {a b : ByteArray} (ha : chk nameF a = 0) (hb : chk nameF b = 0) : matchB a b = decide (a = b) := by
  rw [matchB, takes_plain (name_levels ha) (name_levels hb)]
  simp only [name_filter ha, hb, decide_true, Bool.true_and]
  rw [decide_eq_decide]
  exact ⟨LV_inj, fun h => by rw [h]⟩
theorem matchE_plain {a b : ByteArray} (ha : chk nameF a = 0) (hb : chk nameF b = 0) : matchE a b = 0 := by
  rw [matchE, if_pos (name_filter ha), hb]
theorem hash_ok : chk filtF ⟨#[35]⟩ = 0 := by decide +kernel
theorem hash_takes (O : List ByteArray) : takes (LV ⟨#[35]⟩) O = true := by
  rw [show LV ⟨#[35]⟩ = [⟨#[35]⟩] by decide +kernel]; exact takes_hash _ _ rfl
theorem match_hash {a : ByteArray} (ha : chk nameF a = 0) : matchB ⟨#[35]⟩ a = true := by
  rw [matchB, hash_takes]; simp [hash_ok, ha]
theorem matchE_hash {a : ByteArray} (ha : chk nameF a = 0) : matchE ⟨#[35]⟩ a = 0 := by rw [matchE, if_pos hash_ok, ha]
theorem cov_hash {a : ByteArray} (ha : chk filtF a = 0) : covB ⟨#[35]⟩ a = true := by
  rw [covB, hash_takes]; simp [hash_ok, ha]
theorem covE_hash {a : ByteArray} (ha : chk filtF a = 0) : covE ⟨#[35]⟩ a = 0 := by rw [covE, if_pos hash_ok, ha]

end Go.Proofs.YtnhcecgmcmcioaaDoor
