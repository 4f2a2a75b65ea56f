/-
  dragomanref.LevelsOf: what it answers, for a text of at most 1048576 bytes.
-/
import Derived.Test.YtbodjfmbdddieaeDoorTopicPlainWalk
import Derived.Deep.AppendLies
import Derived.Laws.OwnMore
namespace Go.Proofs.YtbodjfmbdddieaeDoor
open Go.RowKit Go.PlainAid

theorem info_str : (Tryd.prog.info? 9).map (fun i => (i.zero, i.size, i.bytes)) = some (some (.string ByteArray.empty), 1, 16) := by kernel_rfl

/-- the first level, with something ahead of it -/
def preL (p : List UInt8) : List (List UInt8) → List (List UInt8)
  | [] => [p]
  | h :: t => (p ++ h) :: t

theorem pre_nil (L : List (List UInt8)) (h : L ≠ []) : preL [] L = L := by
  cases L with
  | nil => exact absurd rfl h
  | cons x L => rfl

/-- read so far: the levels D, and of the next one what stands from a place on -/
def LvAt (l : List UInt8) (D : List (List UInt8)) (a i : Nat) : Prop := a ≤ i ∧ lvL l = D ++ preL ((l.take i).drop a) (lvL (l.drop i))

theorem lv_start (l : List UInt8) : LvAt l [] 0 0 := ⟨Nat.le_refl _, by rw [List.take_zero, List.drop_nil, List.drop_zero, pre_nil _ (lvL_ne l)]; rfl⟩

theorem lv_slash {l : List UInt8} {D : List (List UInt8)} {a i : Nat} (h : LvAt l D a i) (hi : i < l.length) (hc : l[i] = 47) : LvAt l (D ++ [(l.take i).drop a]) (i + 1) (i + 1) := by
  refine ⟨Nat.le_refl _, ?_⟩
  rw [h.2, List.drop_eq_getElem_cons hi, lvL, if_pos hc, preL, List.append_nil]
  rw [show (l.take (i + 1)).drop (i + 1) = [] from List.drop_eq_nil_of_le (by simp; omega), pre_nil _ (lvL_ne _)]
  simp

theorem lv_byte {l : List UInt8} {D : List (List UInt8)} {a i : Nat} (h : LvAt l D a i) (hi : i < l.length) (hc : l[i] ≠ 47) : LvAt l D a (i + 1) := by
  refine ⟨by have := h.1; omega, ?_⟩
  rw [h.2, List.drop_eq_getElem_cons hi, lvL, if_neg hc]
  congr 1
  cases e : lvL (l.drop (i + 1)) with
  | nil => exact absurd e (lvL_ne _)
  | cons x t =>
    simp only [preL]
    congr 1
    rw [List.take_succ_eq_append_getElem hi, List.drop_append_of_le_length (by have := h.1; simp; omega)]
    simp

theorem lv_end {l : List UInt8} {D : List (List UInt8)} {a : Nat} (h : LvAt l D a l.length) : D ++ [l.drop a] = lvL l := by
  rw [h.2, List.take_length, List.drop_length, lvL, preL, List.append_nil]

theorem LV_of {s : ByteArray} {D : List (List UInt8)} (h : D = lvL s.data.toList) : D.map (fun l => (⟨l.toArray⟩ : ByteArray)) = LV s := by rw [h]; rfl

theorem ext_piece (s : ByteArray) (a i : Nat) (h : a ≤ i) : s.extract a i = ⟨((s.data.toList.take i).drop a).toArray⟩ := by
  apply ByteArray.ext
  apply Array.toList_inj.1
  rw [Lib.extract_data]
  simp [List.take_drop, Nat.add_sub_cancel' h]

theorem lvL_len (l : List UInt8) : (lvL l).length ≤ l.length + 1 := by
  induction l with
  | nil => simp [lvL]
  | cons c r ih =>
    unfold lvL
    split
    · simp; omega
    · split <;> rename_i e
      · simp
      · rw [e] at ih; simp at ih ⊢; omega

theorem lv_len {l : List UInt8} {D : List (List UInt8)} {a i : Nat} (h : LvAt l D a i) : D.length ≤ l.length + 1 := by
  have h1 := congrArg List.length h.2
  have h2 : (lvL l).length ≤ l.length + 1 := lvL_len l
  rw [List.length_append] at h1
  omega

theorem bt_at (s : ByteArray) (k : Nat) (h : k < s.data.toList.length) : bt s k = ((s.data.toList[k]).toNat : Int) := by
  have hk : k < s.size := by simpa using h
  rw [← get_bt s k hk]; rfl
theorem bt_slash {s : ByteArray} {k : Nat} (h : k < s.data.toList.length) (hb : bt s k = 47) : s.data.toList[k] = 47 := by
  rw [bt_at s k h] at hb
  apply UInt8.toNat_inj.1
  show _ = 47
  omega
theorem bt_byte {s : ByteArray} {k : Nat} (h : k < s.data.toList.length) (hb : bt s k ≠ 47) : s.data.toList[k] ≠ 47 := by
  intro e
  rw [bt_at s k h, e] at hb
  exact hb rfl

theorem levels_done {wr : World} {B : Nat} {v : Value} {D : List (List UInt8)} {s : ByteArray} (hown : wr.ownsRow B 9 1 v D.length (D.map fun l => Value.string ⟨l.toArray⟩)) (hD : D = lvL s.data.toList) :
    ∃ g cap, v = .slice (some ⟨g, 0, none⟩) (LV s).length cap ∧ (LV s).length ≤ cap ∧ ∀ k (h : k < (LV s).length), wr.cell? ⟨g, k, none⟩ = some (.string (LV s)[k]) := by
  have hl : D.length = (LV s).length := by rw [hD]; simp [LV]
  have hp : 0 < D.length := by rw [hD]; exact List.length_pos_iff.2 (lvL_ne _)
  rcases hown.2 with ⟨_, h0⟩ | ⟨g, cap, cur, hv, hb, hg, hrest⟩
  · omega
  · refine ⟨g, cap, by rw [hv, hl], by have := hrest; omega, fun k h => ?_⟩
    subst hv
    rw [hown.cellAt k (by omega)]
    subst hD
    simp [LV, List.getElem?_eq_getElem (show k < (lvL s.data.toList).length by simpa [LV] using h)]

set_option maxHeartbeats 2000000 in
set_option maxRecDepth 100000 in
theorem levelsOf_any (s : ByteArray) (w : World) (hs : s.size ≤ 1048576) :
    Calls Tryd.prog 67 #[.string s] w fun e w' => ∃ g cap, e = .returned (.slice (some ⟨g, 0, none⟩) (LV s).length cap) ∧ (LV s).length ≤ cap ∧
      (∀ k (h : k < (LV s).length), w'.cell? ⟨g, k, none⟩ = some (.string (LV s)[k])) ∧ Below w.heap.size w w' := by
  obtain ⟨i0, hi, hz0, hz1, hz2⟩ := info_parts info_str
  have hs2 : (s.size : Int) ≤ 1048576 := by omega
  have HS := hide hs
  clear hs
  go_enter Tryd.func67, Tryd.ntmps67
  go_wp2
  go_loopw [3, 4, 5] (fun v a i wr => ∃ (D : List (List UInt8)) (k : Nat), k ≤ s.size + 1 ∧ i = .int .i64 k ∧
      wr.ownsRow w.heap.size 9 1 v D.length (D.map fun l => Value.string ⟨l.toArray⟩) ∧ Below w.heap.size w wr ∧
      ((k ≤ s.size ∧ ∃ f : Nat, f ≤ k ∧ a = .int .i64 f ∧ Hid (LvAt s.data.toList D f k)) ∨ (k = s.size + 1 ∧ Hid (D = lvL s.data.toList) ∧ ∃ f : Int, a = .int .i64 f)))
    (fun _ _ i _ => s.size + 1 - (intOf i).toNat)
  case atStart => exact ⟨[], 0, by omega, rfl, World.ownsRow_nil _ _ _ _, Below.refl _ _, .inl ⟨Nat.zero_le _, 0, Nat.le_refl _, rfl, lv_start _⟩⟩
  case round =>
    obtain ⟨D, k, hk, rfl, hown, hb, hcase⟩ := hrel
    rcases hcase with ⟨hks, f, hfk, rfl, HL⟩ | ⟨rfl, HD, f, rfl⟩
    · have hDl := lv_len HL.out
      have hDl2 : D.length ≤ s.size + 1 := by simpa using hDl
      clear hDl
      by_cases hend : k = s.size
      · subst hend
        have he : ((s.size : Int) == (s.size : Int)) = true := by simp
        have HN : Hid (D ++ [(s.data.toList.take s.size).drop f] = lvL s.data.toList) := by
          have := HL.out
          rw [← show s.data.toList.length = s.size by simp] at this ⊢
          rw [List.take_length]; exact lv_end this
        have HX := hide (ext_piece s f s.size hfk)
        go_wp2_with (at_builtin; refine wpList_append_own _ rfl _ _ 52 rfl w.heap.size 9 i0 (.string ByteArray.empty) 1 16 Tryd.underlying52 hi hz0 hz1 hz2 rfl (by decide) _ _ _ rfl (hown.alloc _) ⟨wr.heap.size, 0, none⟩ 1 1 [.string (s.extract f s.size)] rfl rfl ?c1 ?c2 ?c3 ?c4 ?c5 ?_)
        case c1 => exact cell_one_new _ _ _
        case c2 => intro u hu; simp at hu; subst hu; rfl
        case c3 => have := HS.out; unfold maxLen; omega
        case c4 => have := HS.out; omega
        case c5 => have := hb.size; simp; omega
        intro v' w1 hown' hgrow _
        have hb1 : Below w.heap.size w w1 := (hb.alloc hb.size _).grown hgrow (by have := hb.size; simp; omega) (fun g hg => (hown.lt g hg).1)
        have hown2 : w1.ownsRow w.heap.size 9 1 v' (D ++ [(s.data.toList.take s.size).drop f]).length ((D ++ [(s.data.toList.take s.size).drop f]).map fun l => Value.string ⟨l.toArray⟩) := by
          rw [HX.out] at hown'; simpa using hown'
        clear hown hown' hgrow
        go_wp2
        go_roundw
        case rel => exact ⟨_, s.size + 1, Nat.le_refl _, by go_num, hown2, hb1, .inr ⟨rfl, HN, _, rfl⟩⟩
        case measure => simp [intOf]
      · have he : ((k : Int) == (s.size : Int)) = false := by simp; omega
        have hlt : k < s.size := by omega
        have hbt := get_bt s
        have hlt2 : k < s.data.toList.length := by simpa using hlt
        by_cases hc : bt s k = 47
        · have hc1 : (bt s k == 47) = true := by simp [hc]
          have HN := hide (lv_slash HL.out hlt2 (bt_slash hlt2 hc))
          have HX := hide (ext_piece s f k hfk)
          clear hc
          go_wp2_with (at_builtin; refine wpList_append_own _ rfl _ _ 52 rfl w.heap.size 9 i0 (.string ByteArray.empty) 1 16 Tryd.underlying52 hi hz0 hz1 hz2 rfl (by decide) _ _ _ rfl (hown.alloc _) ⟨wr.heap.size, 0, none⟩ 1 1 [.string (s.extract f k)] rfl rfl ?d1 ?d2 ?d3 ?d4 ?d5 ?_)
          case d1 => exact cell_one_new _ _ _
          case d2 => intro u hu; simp at hu; subst hu; rfl
          case d3 => have := HS.out; unfold maxLen; omega
          case d4 => have := HS.out; omega
          case d5 => have := hb.size; simp; omega
          intro v' w1 hown' hgrow _
          have hb1 : Below w.heap.size w w1 := (hb.alloc hb.size _).grown hgrow (by have := hb.size; simp; omega) (fun g hg => (hown.lt g hg).1)
          have hown2 : w1.ownsRow w.heap.size 9 1 v' (D ++ [(s.data.toList.take k).drop f]).length ((D ++ [(s.data.toList.take k).drop f]).map fun l => Value.string ⟨l.toArray⟩) := by
            rw [HX.out] at hown'; simpa using hown'
          clear hown hown' hgrow
          go_wp2
          go_roundw
          case rel => exact ⟨_, k + 1, by omega, by go_num, hown2, hb1, .inl ⟨by omega, k + 1, Nat.le_refl _, by go_num, HN⟩⟩
          case measure => simp [intOf]; omega
        · have hc1 : (bt s k == 47) = false := by simp [hc]
          have HN := hide (lv_byte HL.out hlt2 (bt_byte hlt2 hc))
          clear hc
          go_wp2
          go_roundw
          case rel => exact ⟨D, k + 1, by omega, by go_num, hown, hb, .inl ⟨by omega, f, by omega, rfl, HN⟩⟩
          case measure => simp [intOf]; omega
    · have hlt : ¬ ((s.size + 1 : Nat) : Int) ≤ (s.size : Int) := by omega
      obtain ⟨g, cap, rfl, hcap, hcells⟩ := levels_done hown HD.out
      have HC := hide hcells
      clear hcells hown
      go_wp2
      go_ret
      exact ⟨g, cap, rfl, hcap, HC.out, hb⟩
end Go.Proofs.YtbodjfmbdddieaeDoor
