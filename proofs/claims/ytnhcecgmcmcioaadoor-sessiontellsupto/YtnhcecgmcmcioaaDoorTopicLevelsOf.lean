/-
  dragomanref.LevelsOf: what it answers, for a text of at most 1048576 bytes.
-/
import Derived.Test.YtnhcecgmcmcioaaDoorTopicCheck
import Derived.Deep.AppendLies
import Derived.Laws.OwnMore
import Derived.Test.YtnhcecgmcmcioaaDoorWireGets
namespace Go.Proofs.YtnhcecgmcmcioaaDoor
open Go.RowKit Go.PlainAid

theorem info_str : (Tryd.prog.info? 9).map (fun i => (i.zero, i.size, i.bytes)) = some (some (.string ByteArray.empty), 1, 16) := by kernel_rfl

/-- the first level, with something ahead of it -/
def preL (p : List UInt8) : List (List UInt8) → List (List UInt8)
  | [] => [p]
  | h :: t => (p ++ h) :: t

theorem pre_nil (L : List (List UInt8)) (h : L ≠ []) : preL [] L = L := by
  cases L with
  | nil => exact absurd rfl h
  | cons x L => rfl

/-- read so far: the levels D, and of the next one what stands from a place on -/
def LvAt (l : List UInt8) (D : List (List UInt8)) (a i : Nat) : Prop := a ≤ i ∧ lvL l = D ++ preL ((l.take i).drop a) (lvL (l.drop i))

theorem lv_start (l : List UInt8) : LvAt l [] 0 0 := ⟨Nat.le_refl _, by rw [List.take_zero, List.drop_nil, List.drop_zero, pre_nil _ (lvL_ne l)]; rfl⟩

theorem lv_slash {l : List UInt8} {D : List (List UInt8)} {a i : Nat} (h : LvAt l D a i) (hi : i < l.length) (hc : l[i] = 47) : LvAt l (D ++ [(l.take i).drop a]) (i + 1) (i + 1) := by
  refine ⟨Nat.le_refl _, ?_⟩
  rw [h.2, List.drop_eq_getElem_cons hi, lvL, if_pos hc, preL, List.append_nil]
  rw [show (l.take (i + 1)).drop (i + 1) = [] from List.drop_eq_nil_of_le (by simp; omega), pre_nil _ (lvL_ne _)]
  simp

theorem lv_byte {l : List UInt8} {D : List (List UInt8)} {a i : Nat} (h : LvAt l D a i) (hi : i < l.length) (hc : l[i] ≠ 47) : LvAt l D a (i + 1) := by
  refine ⟨by have := h.1; omega, ?_⟩
  rw [h.2, List.drop_eq_getElem_cons hi, lvL, if_neg hc]
  congr 1
  cases e : lvL (l.drop (i + 1)) with
  | nil => exact absurd e (lvL_ne _)
  | cons x t =>
    simp only [preL]
    congr 1
    rw [List.take_succ_eq_append_getElem hi, List.drop_append_of_le_length (by have := h.1; simp; omega)]
    simp

theorem lv_end {l : List UInt8} {D : List (List UInt8)} {a : Nat} (h : LvAt l D a l.length) : D ++ [l.drop a] = lvL l := by
  rw [h.2, List.take_length, List.drop_length, lvL, preL, List.append_nil]

theorem LV_of {s : ByteArray} {D : List (List UInt8)} (h : D = lvL s.data.toList) : D.map (fun l => (⟨l.toArray⟩ : ByteArray)) = LV s := by rw [h]; rfl

theorem ext_piece (s : ByteArray) (a i : Nat) (h : a ≤ i) : s.extract a i = ⟨((s.data.toList.take i).drop a).toArray⟩ := by
  apply ByteArray.ext
  apply Array.toList_inj.1
  rw [Lib.extract_data]
  simp [List.take_drop, Nat.add_sub_cancel' h]

theorem lvL_len (l : List UInt8) : (lvL l).length ≤ l.length + 1 := by
  induction l with
  | nil => simp [lvL]
  | cons c r ih =>
    unfold lvL
    split
    · simp; omega
    · split <;> rename_i e
      · simp
      · rw [e] at ih; simp at ih ⊢; omega

theorem lv_len {l : List UInt8} {D : List (List UInt8)} {a i : Nat} (h : LvAt l D a i) : D.length ≤ l.length + 1 := by
  have h1 := congrArg List.length h.2
  have h2 : (lvL l).length ≤ l.length + 1 := lvL_len l
  rw [List.length_append] at h1
  omega

theorem bt_at (s : ByteArray) (k : Nat) (h : k < s.data.toList.length) : bt s k = ((s.data.toList[k]).toNat : Int) := by
  have hk : k < s.size := by simpa using h
  rw [← get_bt s k hk]; rfl
theorem bt_slash {s : ByteArray} {k : Nat} (h : k < s.data.toList.length) (hb : bt s k = 47) : s.data.toList[k] = 47 := by
  rw [bt_at s k h] at hb
  apply UInt8.toNat_inj.1
  show _ = 47
  omega
theorem bt_byte {s : ByteArray} {k : Nat} (h : k < s.data.toList.length) (hb : bt s k ≠ 47) : s.data.toList[k] ≠ 47 := by
  intro e
  rw [bt_at s k h, e] at hb
  exact hb rfl

theorem levels_done {wr : World} {B : Nat} {v : Value} {D : List (List UInt8)} {s : ByteArray} (hown : wr.ownsRow B 9 1 v D.length (D.map fun l => Value.string ⟨l.toArray⟩)) (hD : D = lvL s.data.toList) :
    ∃ g cap, v = .slice (some ⟨g, 0, none⟩) (LV s).length cap ∧ (LV s).length ≤ cap ∧ ∀ k (h : k < (LV s).length), wr.cell? ⟨g, k, none⟩ = some (.string (LV s)[k]) := by
  have hl : D.length = (LV s).length := by rw [hD]; simp [LV]
  have hp : 0 < D.length := by rw [hD]; exact List.length_pos_iff.2 (lvL_ne _)
  rcases hown.2 with ⟨_, h0⟩ | ⟨g, cap, cur, hv, hb, hg, hrest⟩
  · omega
  · refine ⟨g, cap, by rw [hv, hl], by have := hrest; omega, fun k h => ?_⟩
    subst hv
    rw [hown.cellAt k (by omega)]
    subst hD
    simp [LV, List.getElem?_eq_getElem (show k < (lvL s.data.toList).length by simpa [LV] using h)]

set_option maxHeartbeats 2000000 in
set_option maxRecDepth 100000 in
theorem levelsOf_any (s : ByteArray) (w : World) (hs : s.size ≤ 1048576) :
    Calls Tryd.prog 33 #[.string s] w fun e w' => ∃ g cap, e = .returned (.slice (some ⟨g, 0, none⟩) (LV s).length cap) ∧ (LV s).length ≤ cap ∧
      (∀ k (h : k < (LV s).length), w'.cell? ⟨g, k, none⟩ = some (.string (LV s)[k])) ∧ Below w.heap.size w w' := by
  obtain ⟨i0, hi, hz0, hz1, hz2⟩ := info_parts info_str
  have hs2 : (s.size : Int) ≤ 1048576 := by omega
  have HS := hide hs
  clear hs
  go_enter Tryd.func33, Tryd.ntmps33
  go_wp2
  go_loopw [3, 4, 5] (fun v a i wr => ∃ (D : List (List UInt8)) (k : Nat), k ≤ s.size + 1 ∧ i = .int .i64 k ∧
      wr.ownsRow w.heap.size 9 1 v D.length (D.map fun l => Value.string ⟨l.toArray⟩) ∧ Below w.heap.size w wr ∧
      ((k ≤ s.size ∧ ∃ f : Nat, f ≤ k ∧ a = .int .i64 f ∧ Hid (LvAt s.data.toList D f k)) ∨ (k = s.size + 1 ∧ Hid (D = lvL s.data.toList) ∧ ∃ f : Int, a = .int .i64 f)))
    (fun _ _ i _ => s.size + 1 - (intOf i).toNat)
  case atStart => exact ⟨[], 0, by omega, rfl, World.ownsRow_nil _ _ _ _, Below.refl _ _, .inl ⟨Nat.zero_le _, 0, Nat.le_refl _, rfl, lv_start _⟩⟩
  case round =>
    obtain ⟨D, k, hk, rfl, hown, hb, hcase⟩ := hrel
    rcases hcase with ⟨hks, f, hfk, rfl, HL⟩ | ⟨rfl, HD, f, rfl⟩
    · have hDl := lv_len HL.out
      have hDl2 : D.length ≤ s.size + 1 := by simpa using hDl
      clear hDl
      by_cases hend : k = s.size
      · subst hend
        have he : ((s.size : Int) == (s.size : Int)) = true := by simp
        have HN : Hid (D ++ [(s.data.toList.take s.size).drop f] = lvL s.data.toList) := by
          have := HL.out
          rw [← show s.data.toList.length = s.size by simp] at this ⊢
          rw [List.take_length]; exact lv_end this
        have HX := hide (ext_piece s f s.size hfk)
        go_wp2_with (at_builtin; refine wpList_append_own _ rfl _ _ 43 rfl w.heap.size 9 i0 (.string ByteArray.empty) 1 16 Tryd.underlying43 hi hz0 hz1 hz2 rfl (by decide) _ _ _ rfl (hown.alloc _) ⟨wr.heap.size, 0, none⟩ 1 1 [.string (s.extract f s.size)] rfl rfl ?c1 ?c2 ?c3 ?c4 ?c5 ?_)
        case c1 => exact cell_one_new _ _ _
        case c2 => intro u hu; simp at hu; subst hu; rfl
        case c3 => have := HS.out; unfold maxLen; omega
        case c4 => have := HS.out; omega
        case c5 => have := hb.size; simp; omega
        intro v' w1 hown' hgrow _
        have hb1 : Below w.heap.size w w1 := (hb.alloc hb.size _).grown hgrow (by have := hb.size; simp; omega) (fun g hg => (hown.lt g hg).1)
        have hown2 : w1.ownsRow w.heap.size 9 1 v' (D ++ [(s.data.toList.take s.size).drop f]).length ((D ++ [(s.data.toList.take s.size).drop f]).map fun l => Value.string ⟨l.toArray⟩) := by
          rw [HX.out] at hown'; simpa using hown'
        clear hown hown' hgrow
        go_wp2
        go_roundw
        case rel => exact ⟨_, s.size + 1, Nat.le_refl _, by go_num, hown2, hb1, .inr ⟨rfl, HN, _, rfl⟩⟩
        case measure => simp [intOf]
      · have he : ((k : Int) == (s.size : Int)) = false := by simp; omega
        have hlt : k < s.size := by omega
        have hbt := get_bt s
        have hlt2 : k < s.data.toList.length := by simpa using hlt
        by_cases hc : bt s k = 47
        · have hc1 : (bt s k == 47) = true := by simp [hc]
          have HN := hide (lv_slash HL.out hlt2 (bt_slash hlt2 hc))
          have HX := hide (ext_piece s f k hfk)
          clear hc
          go_wp2_with (at_builtin; refine wpList_append_own _ rfl _ _ 43 rfl w.heap.size 9 i0 (.string ByteArray.empty) 1 16 Tryd.underlying43 hi hz0 hz1 hz2 rfl (by decide) _ _ _ rfl (hown.alloc _) ⟨wr.heap.size, 0, none⟩ 1 1 [.string (s.extract f k)] rfl rfl ?d1 ?d2 ?d3 ?d4 ?d5 ?_)
          case d1 => exact cell_one_new _ _ _
          case d2 => intro u hu; simp at hu; subst hu; rfl
          case d3 => have := HS.out; unfold maxLen; omega
          case d4 => have := HS.out; omega
          case d5 => have := hb.size; simp; omega
          intro v' w1 hown' hgrow _
          have hb1 : Below w.heap.size w w1 := (hb.alloc hb.size _).grown hgrow (by have := hb.size; simp; omega) (fun g hg => (hown.lt g hg).1)
          have hown2 : w1.ownsRow w.heap.size 9 1 v' (D ++ [(s.data.toList.take k).drop f]).length ((D ++ [(s.data.toList.take k).drop f]).map fun l => Value.string ⟨l.toArray⟩) := by
            rw [HX.out] at hown'; simpa using hown'
          clear hown hown' hgrow
          go_wp2
          go_roundw
          case rel => exact ⟨_, k + 1, by omega, by go_num, hown2, hb1, .inl ⟨by omega, k + 1, Nat.le_refl _, by go_num, HN⟩⟩
          case measure => simp [intOf]; omega
        · have hc1 : (bt s k == 47) = false := by simp [hc]
          have HN := hide (lv_byte HL.out hlt2 (bt_byte hlt2 hc))
          clear hc
          go_wp2
          go_roundw
          case rel => exact ⟨D, k + 1, by omega, by go_num, hown, hb, .inl ⟨by omega, f, by omega, rfl, HN⟩⟩
          case measure => simp [intOf]; omega
    · have hlt : ¬ ((s.size + 1 : Nat) : Int) ≤ (s.size : Int) := by omega
      obtain ⟨g, cap, rfl, hcap, hcells⟩ := levels_done hown HD.out
      have HC := hide hcells
      clear hcells hown
      go_wp2
      go_ret
      exact ⟨g, cap, rfl, hcap, HC.out, hb⟩
end Go.Proofs.YtnhcecgmcmcioaaDoor
/-
  dragomanref.IsPlain and CheckTopic: what they answer, for a text of at most 1048576 bytes.
-/
namespace Go.Proofs.YtnhcecgmcmcioaaDoor
open Go.RowKit Go.PlainAid

/-- may the bytes be seen? -/
def rngTo (s : ByteArray) : Nat → Bool
  | 0 => true
  | k + 1 => rngTo s k && (decide (33 ≤ bt s k) && decide (bt s k ≤ 126))
/-- is a + or # among them? -/
def wildTo (s : ByteArray) : Nat → Bool
  | 0 => false
  | k + 1 => wildTo s k || (bt s k == 43) || (bt s k == 35)
/-- the reference's look at one level -/
def lvOkF (b : Bool) (x : ByteArray) (last : Bool) : Bool := !(wildTo x x.size) || (b && (decide (x = ⟨#[43]⟩) || (decide (x = ⟨#[35]⟩) && last)))

theorem rngTo_iff (s : ByteArray) (n : Nat) : rngTo s n = true ↔ ∀ j, j < n → 33 ≤ bt s j ∧ bt s j ≤ 126 := by
  induction n with
  | zero => simp [rngTo]
  | succ n ih =>
    rw [rngTo, Bool.and_eq_true, ih, Bool.and_eq_true, decide_eq_true_eq, decide_eq_true_eq]
    constructor
    · intro h j hj
      by_cases e : j = n
      · subst e; exact h.2
      · exact h.1 j (by omega)
    · intro h; exact ⟨fun j hj => h j (by omega), h n (by omega)⟩
theorem plainTo_iff (s : ByteArray) (n : Nat) : plainTo s n = true ↔ ∀ j, j < n → plainC (bt s j) = true := by
  induction n with
  | zero => simp [plainTo]
  | succ n ih =>
    rw [plainTo, Bool.and_eq_true, ih]
    constructor
    · intro h j hj
      by_cases e : j = n
      · subst e; exact h.2
      · exact h.1 j (by omega)
    · intro h; exact ⟨fun j hj => h j (by omega), h n (by omega)⟩
theorem wildTo_iff (s : ByteArray) (n : Nat) : wildTo s n = false ↔ ∀ j, j < n → bt s j ≠ 43 ∧ bt s j ≠ 35 := by
  induction n with
  | zero => simp [wildTo]
  | succ n ih =>
    rw [wildTo, Bool.or_eq_false_iff, Bool.or_eq_false_iff, ih, beq_eq_false_iff_ne, beq_eq_false_iff_ne]
    constructor
    · intro h j hj
      by_cases e : j = n
      · subst e; exact ⟨h.1.2, h.2⟩
      · exact h.1.1 j (by omega)
    · intro h; exact ⟨⟨fun j hj => h j (by omega), (h n (by omega)).1⟩, (h n (by omega)).2⟩

theorem rng_no {s : ByteArray} {k : Nat} (hk : k < s.size) (h : ¬ (33 ≤ bt s k ∧ bt s k ≤ 126)) : rngTo s s.size = false := by
  rw [← Bool.not_eq_true, rngTo_iff]; exact fun hh => h (hh k hk)
theorem rng_more {s : ByteArray} {k : Nat} (hk : rngTo s k = true) (h : 33 ≤ bt s k ∧ bt s k ≤ 126) : rngTo s (k + 1) = true := by
  rw [rngTo, hk]; simp [h]

theorem plain_split (x : ByteArray) : plain x = (rngTo x x.size && !(wildTo x x.size)) := by
  rw [Bool.eq_iff_iff, Bool.and_eq_true, Bool.not_eq_true', rngTo_iff, wildTo_iff, plain, plainTo_iff]
  constructor
  · intro h
    exact ⟨fun j hj => by have := h j hj; simp [plainC] at this; omega, fun j hj => by have := h j hj; simp [plainC] at this; omega⟩
  · intro h j hj
    have h1 := h.1 j hj
    have h2 := h.2 j hj
    simp [plainC]; omega

/-- what is seen of a text is what is seen of its levels -/
theorem rng_lvL (l : List UInt8) : (∀ c ∈ l, (33 : Int) ≤ c.toNat ∧ (c.toNat : Int) ≤ 126) ↔ ∀ x ∈ lvL l, ∀ c ∈ x, (33 : Int) ≤ c.toNat ∧ (c.toNat : Int) ≤ 126 := by
  induction l with
  | nil => simp [lvL]
  | cons c r ih =>
    unfold lvL
    split
    · rename_i hc
      subst hc
      constructor
      · intro h x hx
        rcases List.mem_cons.1 hx with e | e
        · subst e; intro d hd; cases hd
        · exact ih.1 (fun d hd => h d (List.mem_cons_of_mem _ hd)) x e
      · intro h d hd
        rcases List.mem_cons.1 hd with e | e
        · subst e; decide
        · exact ih.2 (fun x hx => h x (List.mem_cons_of_mem _ hx)) d e
    · split
      · rename_i e; exact absurd e (lvL_ne r)
      · rename_i h t e
        rw [e] at ih
        constructor
        · intro hh x hx
          have hr := ih.1 (fun d hd => hh d (List.mem_cons_of_mem _ hd))
          rcases List.mem_cons.1 hx with e' | e'
          · subst e'
            intro d hd
            rcases List.mem_cons.1 hd with e2 | e2
            · subst e2; exact hh d (List.mem_cons_self ..)
            · exact hr h (List.mem_cons_self ..) d e2
          · exact hr x (List.mem_cons_of_mem _ e')
        · intro hh d hd
          rcases List.mem_cons.1 hd with e2 | e2
          · subst e2; exact hh (d :: h) (List.mem_cons_self ..) d (List.mem_cons_self ..)
          · refine ih.2 (fun x hx => ?_) d e2
            rcases List.mem_cons.1 hx with e3 | e3
            · subst e3; exact fun c' hc' => hh (c :: x) (List.mem_cons_self ..) c' (List.mem_cons_of_mem _ hc')
            · exact hh x (List.mem_cons_of_mem _ e3)

theorem rng_list (s : ByteArray) : rngTo s s.size = true ↔ ∀ c ∈ s.data.toList, (33 : Int) ≤ c.toNat ∧ (c.toNat : Int) ≤ 126 := by
  rw [rngTo_iff]
  have hl : s.data.toList.length = s.size := by simp
  constructor
  · intro h c hc
    obtain ⟨k, hk, rfl⟩ := List.mem_iff_getElem.1 hc
    have := h k (by omega)
    rwa [bt_at s k hk] at this
  · intro h j hj
    have hj2 : j < s.data.toList.length := by omega
    rw [bt_at s j hj2]
    exact h _ (List.getElem_mem _)

theorem rng_LV (s : ByteArray) : rngTo s s.size = true ↔ ∀ x ∈ LV s, rngTo x x.size = true := by
  rw [rng_list, rng_lvL]
  constructor
  · intro h x hx
    obtain ⟨l, hl, rfl⟩ := List.mem_map.1 hx
    rw [rng_list]; exact h l hl
  · intro h l hl
    exact (rng_list ⟨l.toArray⟩).1 (h _ (List.mem_map.2 ⟨l, hl, rfl⟩))

/-- which levels may stand, by a filter or a name -/
def lvF (b : Bool) : ByteArray → Bool → Bool := if b then filtF else nameF

theorem lvF_rng {b : Bool} {x : ByteArray} {last : Bool} (h : rngTo x x.size = true) : lvF b x last = lvOkF b x last := by
  have hp : plain x = !(wildTo x x.size) := by rw [plain_split, h, Bool.true_and]
  cases b
  · show nameF x last = _
    simp [nameF, lvOkF, hp]
  · show filtF x last = _
    unfold filtF lvOkF
    rw [hp]
    cases wildTo x x.size <;> cases decide (x = ⟨#[43]⟩) <;> cases decide (x = ⟨#[35]⟩) <;> cases last <;> rfl
theorem lvF_no {b : Bool} {x : ByteArray} {last : Bool} (h : rngTo x x.size = false) : lvF b x last = false := by
  have hp : plain x = false := by rw [plain_split, h, Bool.false_and]
  cases b
  · exact hp
  · show filtF x last = false
    have h1 : x ≠ ⟨#[43]⟩ := fun e => by subst e; revert h; decide +kernel
    have h2 : x ≠ ⟨#[35]⟩ := fun e => by subst e; revert h; decide +kernel
    simp [filtF, h1, h2, hp]

theorem okTo_iff {p : ByteArray → Bool → Bool} {l : List ByteArray} : okTo p l l.length l.length = true ↔ ∀ k, (h : k < l.length) → p l[k] (k + 1 == l.length) = true :=
  ⟨fun h k hk => okTo_all (Nat.le_refl _) h k hk hk, fun h => okTo_mk (Nat.le_refl _) fun k hk _ => h k hk⟩

theorem chk_ref (b : Bool) {s : ByteArray} (h0 : ¬ s.size = 0) (h1 : ¬ 60 < s.size) (h2 : ¬ 6 < (LV s).length) :
    chk (lvF b) s = if rngTo s s.size = true then (if okTo (lvOkF b) (LV s) (LV s).length (LV s).length = true then 0 else 1) else 1 := by
  rw [chk_lv _ h0 h1 h2]
  by_cases hr : rngTo s s.size = true
  · rw [if_pos hr]
    have hx := (rng_LV s).1 hr
    have e : okTo (lvF b) (LV s) (LV s).length (LV s).length = okTo (lvOkF b) (LV s) (LV s).length (LV s).length := by
      rw [Bool.eq_iff_iff, okTo_iff, okTo_iff]
      constructor
      · intro h k hk; rw [← lvF_rng (hx _ (List.getElem_mem _))]; exact h k hk
      · intro h k hk; rw [lvF_rng (hx _ (List.getElem_mem _))]; exact h k hk
    rw [e]
  · rw [if_neg hr, if_neg]
    rw [okTo_iff]
    intro h
    apply hr
    rw [rng_LV]
    intro x hx
    obtain ⟨k, hk, rfl⟩ := List.mem_iff_getElem.1 hx
    by_cases hxr : rngTo (LV s)[k] (LV s)[k].size = true
    · exact hxr
    · have := lvF_no (b := b) (last := k + 1 == (LV s).length) (by simpa using hxr)
      rw [h k hk] at this; cases this
end Go.Proofs.YtnhcecgmcmcioaaDoor
/-
  dragomanref.IsPlain and CheckTopic: the walks.
-/
namespace Go.Proofs.YtnhcecgmcmcioaaDoor
open Go.RowKit Go.PlainAid

set_option maxHeartbeats 1000000 in
theorem refPlain_any (s : ByteArray) (w : World) (hs : s.size ≤ maxLen) :
    Calls Tryd.prog 34 #[.string s] w fun e w' => e = .returned (.bool (rngTo s s.size)) ∧ w' = w := by
  unfold maxLen at hs
  have hbt := get_bt s
  go_enter Tryd.func34, Tryd.ntmps34
  go_wp2
  go_loop [3] (fun i => ∃ k : Nat, k ≤ s.size ∧ i = .int .i64 k ∧ Hid (rngTo s k = true)) (fun i => s.size - (intOf i).toNat)
  case atStart => exact ⟨0, Nat.zero_le _, rfl, rfl⟩
  case round =>
    obtain ⟨k, hk, rfl, HP⟩ := hrel
    have hb0 := bt_nonneg s k
    have hb1 := bt_le s k
    by_cases hlt : k < s.size
    · by_cases h1 : 33 ≤ bt s k ∧ bt s k ≤ 126
      · have HR := hide (rng_more HP.out h1)
        go_wp2_with (go_at_call 32; refine (between_yes _ _ _ _ h1).mono ?_; rintro e w1 ⟨rfl, rfl⟩)
        go_round
        case rel => exact ⟨k + 1, by omega, by go_num, HR⟩
        case measure => simp [intOf]; omega
      · have HR := hide (rng_no hlt h1)
        go_wp2_with (go_at_call 32; refine (between_no _ _ _ _ h1).mono ?_; rintro e w1 ⟨rfl, rfl⟩)
        go_ret
        exact ⟨by rw [HR.out]; rfl, rfl⟩
    · have HE : Hid (rngTo s s.size = true) := (show k = s.size by omega) ▸ HP
      go_wp2
      go_ret
      exact ⟨by rw [HE.out]; rfl, rfl⟩

theorem wild_step (x : ByteArray) (j : Nat) : wildTo x (j + 1) = (wildTo x j || (bt x j == 43) || (bt x j == 35)) := rfl

set_option maxHeartbeats 4000000 in
set_option maxRecDepth 100000 in
theorem checkTopic_any (s : ByteArray) (b : Bool) (w : World) (hs : s.size ≤ 1048576) :
    Calls Tryd.prog 10 #[.string s, .bool b] w fun e w' => e = .returned (.int .i64 (chk (lvF b) s)) ∧ Below w.heap.size w w' := by
  go_enter Tryd.func10, Tryd.ntmps10
  go_wp2_with fail
  refine (levelsOf_any s _ hs).mono ?_
  rintro e w1 ⟨g, cap, rfl, hcap, hcells, hbw⟩
  by_cases h0 : s.size = 0
  · have HR := hide (chk_empty (lvF b) h0)
    have hz : (s.toList == []) = true := txt_yes (by apply ByteArray.ext; exact Array.eq_empty_of_size_eq_zero h0)
    clear h0 hcells
    go_wp2
    go_ret
    exact ⟨by rw [HR.out]; rfl, hbw⟩
  · have hz : (s.toList == []) = false := txt_no (fun e => h0 (by rw [e]; rfl))
    by_cases h1 : 60 < s.size
    · have HR := hide (chk_long (lvF b) h0 h1)
      have h1' : 60 < (s.size : Int) := by omega
      clear hcells
      go_wp2
      go_ret
      exact ⟨by rw [HR.out]; rfl, hbw⟩
    · have h1' : decide (60 < (s.size : Int)) = false := by simp; omega
      by_cases h2 : 6 < (LV s).length
      · have HR := hide (chk_many (lvF b) h0 h1 h2)
        have h2' : 6 < ((LV s).length : Int) := by omega
        clear hcells
        go_wp2
        go_ret
        exact ⟨by rw [HR.out]; rfl, hbw⟩
      · have h2' : decide (6 < ((LV s).length : Int)) = false := by simp; omega
        have HC := hide (chk_ref b h0 h1 h2)
        have hll : ((LV s).length : Int) ≤ 6 := by omega
        have HSZ := hide (fun x hx => Nat.le_trans (lvS_size s x hx) (show s.size ≤ 60 by omega))
        have HCE := hide hcells
        clear hcells
        generalize LV s = L at *
        clear h2
        go_wp2_with fail
        refine (refPlain_any s _ (by unfold maxLen; omega)).mono ?_
        rintro e w' ⟨rfl, rfl⟩
        by_cases hr : rngTo s s.size = true
        · have HC2 := hide (HC.out.trans (if_pos hr))
          go_wp2_with fail
          go_loop [6, 7, 8] (fun i _ _ => ∃ k : Nat, k ≤ L.length ∧ i = .int .i64 k ∧ Hid (okTo (lvOkF b) L L.length k = true)) (fun i _ _ => L.length - (intOf i).toNat)
          case atStart => exact ⟨0, Nat.zero_le _, rfl, rfl⟩
          case round =>
            obtain ⟨k, hk, rfl, HP⟩ := hrel
            by_cases hlt : k < L.length
            · have hxs := HSZ.out L[k] (List.getElem_mem _)
              have cf := HCE.out k hlt
              have HX := hide (okTo_next (p := lvOkF b) hlt HP.out)
              generalize L[k] = x at *
              have hxs2 : (x.size : Int) ≤ 60 := by omega
              have hbt := get_bt x
              go_wp2
              go_loop [7, 8] (fun v j => ∃ q : Nat, q ≤ x.size ∧ j = .int .i64 q ∧ v = .bool (wildTo x q)) (fun _ j => x.size - (intOf j).toNat)
              case atStart => exact ⟨0, Nat.zero_le _, rfl, rfl⟩
              case round =>
                obtain ⟨q, hq, rfl, rfl⟩ := hrel
                have hq0 := bt_nonneg x q
                have hq1 := bt_le x q
                by_cases hlq : q < x.size
                · have HW := hide (wild_step x q)
                  cases hw : wildTo x q with
                  | true =>
                    have HN : Hid (wildTo x (q + 1) = true) := by rw [Hid, HW.out, hw]; rfl
                    go_wp2
                    go_round
                    case rel => exact ⟨q + 1, by omega, by go_num, by rw [HN.out]⟩
                    case measure => simp [intOf]; omega
                  | false =>
                    by_cases h3 : bt x q = 43
                    · have h3' : (bt x q == 43) = true := by simp [h3]
                      have HN : Hid (wildTo x (q + 1) = true) := by rw [Hid, HW.out, hw, h3']; rfl
                      clear h3
                      go_wp2
                      go_round
                      case rel => exact ⟨q + 1, by omega, by go_num, by rw [HN.out]⟩
                      case measure => simp [intOf]; omega
                    · have h3' : (bt x q == 43) = false := by simp [h3]
                      have HN : Hid (wildTo x (q + 1) = (bt x q == 35)) := by rw [Hid, HW.out, hw, h3']; rfl
                      clear h3
                      go_wp2
                      go_round
                      case rel => exact ⟨q + 1, by omega, by go_num, by rw [HN.out]⟩
                      case measure => simp [intOf]; omega
                · have HQ : Hid (q = x.size) := by show q = x.size; omega
                  cases hw : wildTo x q with
                  | false =>
                    have HN : Hid (okTo (lvOkF b) L L.length (k + 1) = true) := by rw [Hid, HX.out, lvOkF, ← HQ.out, hw]; rfl
                    go_wp2
                    go_round
                    case rel => exact ⟨k + 1, by omega, by go_num, HN⟩
                    case measure => simp [intOf]; omega
                  | true =>
                    have hwx : wildTo x x.size = true := by rw [← HQ.out]; exact hw
                    have HWX := hide hwx
                    clear hwx
                    cases b with
                    | false =>
                      have HN : Hid (okTo (lvOkF false) L L.length (k + 1) = false) := by rw [Hid, HX.out, lvOkF, HWX.out]; rfl
                      have HN2 := hide (okTo_false (n := L.length) hlt HN.out)
                      go_wp2
                      go_ret
                      exact ⟨by rw [HC2.out, HN2.out]; rfl, hbw⟩
                    | true =>
                      by_cases hp : x = ⟨#[43]⟩
                      · have e4 : (x.toList == [43]) = true := txt_yes hp
                        have e5 : (x.toList != [43]) = false := by simp [bne, e4]
                        have HN : Hid (okTo (lvOkF true) L L.length (k + 1) = true) := by rw [Hid, HX.out]; simp [lvOkF, hp]
                        clear hp
                        go_wp2
                        go_round
                        case rel => exact ⟨k + 1, by omega, by go_num, HN⟩
                        case measure => simp [intOf]; omega
                      · have e4 : (x.toList == [43]) = false := txt_no hp
                        have e5 : (x.toList != [43]) = true := by simp [bne, e4]
                        by_cases hh : x = ⟨#[35]⟩
                        · have e6 : (x.toList == [35]) = true := txt_yes hh
                          have e7 : (x.toList != [35]) = false := by simp [bne, e6]
                          by_cases hl : k + 1 = L.length
                          · have e8 : decide ((k : Int) < (L.length : Int) - 1) = false := by simp; omega
                            have HN : Hid (okTo (lvOkF true) L L.length (k + 1) = true) := by rw [Hid, HX.out]; simp [lvOkF, hh, hl]
                            clear hp hh
                            go_wp2
                            go_round
                            case rel => exact ⟨k + 1, by omega, by go_num, HN⟩
                            case measure => simp [intOf]; omega
                          · have e8 : (k : Int) < (L.length : Int) - 1 := by omega
                            have HN : Hid (okTo (lvOkF true) L L.length (k + 1) = false) := by
                              have hl2 : (k + 1 == L.length) = false := by simpa using hl
                              rw [Hid, HX.out, lvOkF, HWX.out, hl2]; simp [hp]
                            have HN2 := hide (okTo_false (n := L.length) hlt HN.out)
                            clear hp hh
                            go_wp2
                            go_ret
                            exact ⟨by rw [HC2.out, HN2.out]; rfl, hbw⟩
                        · have e6 : (x.toList == [35]) = false := txt_no hh
                          have e7 : (x.toList != [35]) = true := by simp [bne, e6]
                          have HN : Hid (okTo (lvOkF true) L L.length (k + 1) = false) := by
                            rw [Hid, HX.out, lvOkF, HWX.out]; simp [hp, hh]
                          have HN2 := hide (okTo_false (n := L.length) hlt HN.out)
                          clear hp hh
                          go_wp2
                          go_ret
                          exact ⟨by rw [HC2.out, HN2.out]; rfl, hbw⟩
            · have HE := okTo_end (show k = L.length by omega) HP
              go_wp2
              go_ret
              exact ⟨by rw [HC2.out, HE.out]; rfl, hbw⟩
        · have hr2 : rngTo s s.size = false := by simpa using hr
          have HC2 := hide (HC.out.trans (if_neg hr))
          clear hr
          go_wp2
          go_ret
          exact ⟨by rw [HC2.out]; rfl, hbw⟩
end Go.Proofs.YtnhcecgmcmcioaaDoor
