/-
  What is encoded is decoded as it was: plain facts on a packet's bytes.
-/
import Derived.Test.YtnjdpibgfbbkcabGreatDoorPacketDec
import Derived.Test.YtnjdpibgfbbkcabGreatDoorWireBackMath
namespace Go.Proofs.YtnjdpibgfbbkcabGreatDoor
open Go.RowKit Go.PlainAid

/-- a number that was told is read -/
theorem rn_back {s x y : ByteArray} {v : Int} {k n : Nat} (hs : s = x ++ numS v k ++ y) (hn : n = x.size) (hk : 1 ≤ k ∧ k ≤ 4) (hv : numE v k = 0) (bad : Bool) :
    (getR s n k).1 = v ∧ rnAt s n k = n + k ∧ rnBad s n k bad = bad := by
  have hsz := numS_size hv
  have hss : s.size = x.size + (numS v k).size + y.size := by rw [hs, ByteArray.size_append, ByteArray.size_append]
  have hg : getR s n k = (v, 0) := by
    unfold getR
    rw [if_neg (by omega), if_neg (by omega), if_neg (by omega), hs, hn]
    have := num_back hv x y
    simp only [Int.toNat_natCast] at this ⊢
    rw [this]
  refine ⟨by rw [hg], ?_, ?_⟩
  · unfold rnAt; rw [hg]; rfl
  · unfold rnBad; rw [hg]; simp
/-- a text that was told is read -/
theorem rt_back {s x y t : ByteArray} {n : Nat} (hs : s = x ++ txtS t ++ y) (hn : n = x.size) (ht : t.size ≤ 65535) (bad : Bool) :
    (gtR s n).1 = t ∧ rtAt s n = n + (2 + t.size) ∧ rtBad s n bad = bad := by
  have e : txtS t = textS t := if_neg (by omega)
  rw [e] at hs
  have hz := textS_size t
  have hss : s.size = x.size + (textS t).size + y.size := by rw [hs, ByteArray.size_append, ByteArray.size_append]
  have hb := text_num t x y (by omega)
  have hg : gtR s n = (t, 2 + (t.size : Int), 0) := by
    unfold gtR
    rw [if_neg (by omega), if_neg (by omega)]
    simp only [Int.toNat_natCast]
    have hb' : beN s n 2 = t.size := by rw [hs, hn]; exact hb
    rw [if_neg (by omega), hb', hs, hn, text_cut]
  refine ⟨by rw [hg], ?_, ?_⟩
  · unfold rtAt; rw [hg]; simp only; omega
  · unfold rtBad; rw [hg]; simp

theorem numE_in {v : Int} {k : Nat} (hk : k = 1 ∨ k = 2) (h0 : 0 ≤ v) (h1 : v < 256 ^ k) : numE v k = 0 := by
  refine numE_ok (by omega) ?_
  rcases hk with rfl | rfl
  · simp at h1 ⊢; omega
  · simp at h1 ⊢; omega
theorem numsS_one (n x : Int) : numsS n [x] = numS x n := ba_append_nil _
theorem numsS_two (n x y : Int) : numsS n [x, y] = numS x n ++ numS y n := by simp only [numsS, ba_append_nil]
theorem numS_size1 {v : Int} (h0 : 0 ≤ v) (h1 : v < 256) : (numS v 1).size = 1 := by
  have := numS_size (numE_in (k := 1) (.inl rfl) h0 (by simpa using h1))
  simp at this; omega
theorem numS_size2 {v : Int} (h0 : 0 ≤ v) (h1 : v < 65536) : (numS v 2).size = 2 := by
  have := numS_size (numE_in (k := 2) (.inr rfl) h0 (by simpa using h1))
  simp at this; omega
theorem txtS_len {t : ByteArray} (h : t.size ≤ 65535) : (txtS t).size = 2 + t.size := by
  rw [show txtS t = textS t from if_neg (by omega)]; exact textS_size t

theorem flag2 (c : Bool) (m : Int) (hm : m ≠ 0) : (flagN c m == m) = c := by cases c <;> simp [flagN, hm.symm]
theorem flag0 (c : Bool) (m : Int) : (flagN c m == 0 || flagN c m == m) = true := by cases c <;> simp [flagN]

/-- a Connect's body is read as it was -/
theorem con_back {s X : ByteArray} {p : Pk} {n : Nat} (hs : s = X ++ connectS p) (hn : n = X.size) (hk : 0 ≤ p.keep ∧ p.keep ≤ 65535) (hc : p.client.size ≤ 65535) :
    conN5 s n = s.size ∧ conB5 s n false = false ∧ (getR s (conN2 s n) (1 : Nat)).1 = flagN p.clean 2 ∧ (getR s (conN3 s n) (2 : Nat)).1 = p.keep ∧ (gtR s (conN4 s n)).1 = p.client := by
  have hM : (⟨#[77, 81, 84, 84]⟩ : ByteArray).size = 4 := rfl
  have hf := flagN_le p.clean 2 (by omega)
  have z1 := txtS_len (t := ⟨#[77, 81, 84, 84]⟩) (by rw [hM]; omega)
  have z2 := numS_size1 (v := 4) (by omega) (by omega)
  have z3 := numS_size1 (v := flagN p.clean 2) (by omega) (by omega)
  have z4 := numS_size2 hk.1 (by omega)
  have z5 := txtS_len (t := p.client) (by omega)
  have hs0 : s = X ++ txtS ⟨#[77, 81, 84, 84]⟩ ++ numS 4 1 ++ numS (flagN p.clean 2) 1 ++ numS p.keep 2 ++ txtS p.client := by
    rw [hs, connectS, numsS_two, numsS_one]; simp only [ba_assoc]
  have hsz : s.size = X.size + (2 + 4) + 1 + 1 + 2 + (2 + p.client.size) := by
    rw [hs0]; simp only [ByteArray.size_append]; omega
  have r1 := rt_back (s := s) (x := X) (t := ⟨#[77, 81, 84, 84]⟩) (y := numS 4 1 ++ numS (flagN p.clean 2) 1 ++ numS p.keep 2 ++ txtS p.client) (n := n) (by rw [hs0]; simp only [ba_assoc]) hn (by rw [hM]; omega)
  have r2 := rn_back (s := s) (x := X ++ txtS ⟨#[77, 81, 84, 84]⟩) (v := 4) (k := 1) (y := numS (flagN p.clean 2) 1 ++ numS p.keep 2 ++ txtS p.client) (n := rtAt s n) (by rw [hs0]; simp only [ba_assoc]; rfl) (by rw [(r1 false).2.1, ByteArray.size_append]; omega) (by omega) (numE_in (.inl rfl) (by omega) (by decide))
  have r3 := rn_back (s := s) (x := X ++ txtS ⟨#[77, 81, 84, 84]⟩ ++ numS 4 1) (v := flagN p.clean 2) (k := 1) (y := numS p.keep 2 ++ txtS p.client) (n := conN2 s n) (by rw [hs0]; simp only [ba_assoc]; rfl) (by unfold conN2; rw [(r2 false).2.1, (r1 false).2.1]; simp only [ByteArray.size_append]; omega) (by omega) (numE_in (.inl rfl) (by omega) (by omega))
  have r4 := rn_back (s := s) (x := X ++ txtS ⟨#[77, 81, 84, 84]⟩ ++ numS 4 1 ++ numS (flagN p.clean 2) 1) (v := p.keep) (k := 2) (y := txtS p.client) (n := conN3 s n) (by rw [hs0]; rfl) (by unfold conN3; rw [(r3 false).2.1]; unfold conN2; rw [(r2 false).2.1, (r1 false).2.1]; simp only [ByteArray.size_append]; omega) (by omega) (numE_in (.inr rfl) (by omega) (by omega))
  have r5 := rt_back (s := s) (x := X ++ txtS ⟨#[77, 81, 84, 84]⟩ ++ numS 4 1 ++ numS (flagN p.clean 2) 1 ++ numS p.keep 2) (t := p.client) (y := ⟨#[]⟩) (n := conN4 s n) (by rw [hs0, ba_append_nil]) (by unfold conN4; rw [(r4 false).2.1]; unfold conN3; rw [(r3 false).2.1]; unfold conN2; rw [(r2 false).2.1, (r1 false).2.1]; simp only [ByteArray.size_append]; omega) (by omega)
  refine ⟨?_, ?_, (r3 false).1, (r4 false).1, (r5 false).1⟩
  · unfold conN5; rw [(r5 false).2.1]; unfold conN4; rw [(r4 false).2.1]; unfold conN3; rw [(r3 false).2.1]; unfold conN2; rw [(r2 false).2.1, (r1 false).2.1]; omega
  · have b1 : conB1 s n false = false := by unfold conB1; rw [(r1 false).2.2, (r1 false).1, txt_yes (l := [77, 81, 84, 84]) rfl]; rfl
    have b2 : conB2 s n false = false := by unfold conB2; rw [b1, (r2 false).2.2, (r2 false).1]; rfl
    have b3 : conB3 s n false = false := by unfold conB3 rmBad; rw [b2, (r3 false).2.2, (r3 false).1, flag0]; rfl
    have b4 : conB4 s n false = false := by unfold conB4; rw [b3, (r4 false).2.2]
    unfold conB5; rw [b4, (r5 false).2.2]

theorem ext_back {s Y pl : ByteArray} {m : Nat} (hs : s = Y ++ pl) (hm : m = Y.size) : s.extract m s.size = pl := by
  apply ByteArray.ext
  apply Array.toList_inj.1
  have e1 : Y.data.toList.length = Y.size := by simp
  have e2 : pl.data.toList.length = pl.size := by simp
  rw [Lib.extract_data, hs, hm, ByteArray.size_append, ByteArray.data_append, Array.toList_append, List.drop_left' e1, List.take_of_length_le (by omega)]

/-- a Publish's body is read as it was -/
theorem pub_back {s X : ByteArray} {p : Pk} {n b : Nat} (hs : s = X ++ publishS p) (hn : n = X.size) (ht : p.topic.size ≤ 65535) (hq : bitB b 2 = decide (p.qos = 1)) (hi : p.qos = 1 → 0 ≤ p.id ∧ p.id ≤ 65535) :
    pubB s n b false = false ∧ (gtR s n).1 = p.topic ∧ (p.qos = 1 → (getR s (rtAt s n) (2 : Nat)).1 = p.id) ∧ s.extract (pubN s n b) s.size = p.payload := by
  have z1 := txtS_len (t := p.topic) (by omega)
  by_cases h1 : p.qos = 1
  · have hb : bitB b 2 = true := by rw [hq]; simp [h1]
    have hi' := hi h1
    have z2 := numS_size2 hi'.1 (by omega)
    have hs0 : s = X ++ txtS p.topic ++ numS p.id 2 ++ p.payload := by
      rw [hs, publishS, if_pos h1, numsS_one]; simp only [ba_assoc]
    have r1 := rt_back (s := s) (x := X) (t := p.topic) (y := numS p.id 2 ++ p.payload) (n := n) (by rw [hs0]; simp only [ba_assoc]) hn (by omega)
    have r2 := rn_back (s := s) (x := X ++ txtS p.topic) (v := p.id) (k := 2) (y := p.payload) (n := rtAt s n) (by rw [hs0]; rfl) (by rw [(r1 false).2.1, ByteArray.size_append]; omega) (by omega) (numE_in (.inr rfl) (by omega) (by omega))
    refine ⟨?_, (r1 false).1, fun _ => (r2 false).1, ?_⟩
    · unfold pubB; rw [if_pos hb, (r1 false).2.2, (r2 false).2.2]
    · refine ext_back hs0 ?_
      unfold pubN; rw [if_pos hb, (r2 false).2.1, (r1 false).2.1]; simp only [ByteArray.size_append]; omega
  · have hb : ¬ bitB b 2 = true := by rw [hq]; simp [h1]
    have hs0 : s = X ++ txtS p.topic ++ p.payload := by
      rw [hs, publishS, if_neg h1, ba_append_nil]; simp only [ba_assoc]
    have r1 := rt_back (s := s) (x := X) (t := p.topic) (y := p.payload) (n := n) hs0 hn (by omega)
    refine ⟨?_, (r1 false).1, fun h => absurd h h1, ?_⟩
    · unfold pubB; rw [if_neg hb, (r1 false).2.2]
    · refine ext_back hs0 ?_
      unfold pubN; rw [if_neg hb, (r1 false).2.1, ByteArray.size_append]; omega

/-- a Connack's body is read as it was -/
theorem ack_back {s X : ByteArray} {p : Pk} {n : Nat} (hs : s = X ++ numsS 1 [flagN p.session 1, p.code]) (hn : n = X.size) (hc : 0 ≤ p.code ∧ p.code ≤ 255) :
    rnAt s (rnAt s n 1) 1 = s.size ∧ rnBad s (rnAt s n 1) 1 (rmBad s n 1 false) = false ∧ (getR s n (1 : Nat)).1 = flagN p.session 1 ∧ (getR s (rnAt s n 1) (1 : Nat)).1 = p.code := by
  have hf := flagN_le p.session 1 (by omega)
  have z1 := numS_size1 (v := flagN p.session 1) (by omega) (by omega)
  have z2 := numS_size1 (v := p.code) (by omega) (by omega)
  rw [numsS_two] at hs
  have hsz : s.size = X.size + (1 + 1) := by rw [hs]; simp only [ByteArray.size_append]; omega
  have r1 := rn_back (s := s) (x := X) (v := flagN p.session 1) (k := 1) (y := numS p.code 1) (n := n) (by rw [hs]; simp only [ba_assoc]; rfl) hn (by omega) (numE_in (.inl rfl) (by omega) (by omega))
  have r2 := rn_back (s := s) (x := X ++ numS (flagN p.session 1) 1) (v := p.code) (k := 1) (y := ⟨#[]⟩) (n := rnAt s n 1) (by rw [hs, ba_append_nil]; simp only [ba_assoc]; rfl) (by rw [(r1 false).2.1, ByteArray.size_append]; omega) (by omega) (numE_in (.inl rfl) (by omega) (by omega))
  refine ⟨by rw [(r2 false).2.1, (r1 false).2.1]; omega, ?_, (r1 false).1, (r2 false).1⟩
  have b1 : rmBad s n 1 false = false := by unfold rmBad; rw [(r1 false).2.2, (r1 false).1, flag0]; rfl
  rw [b1, (r2 false).2.2]

/-- asks are read as they were -/
theorem asks_back {s : ByteArray} {kind : Int} : ∀ (l acc : List (ByteArray × Int)) (X : ByteArray) (n f : Nat), s = X ++ asksS kind l → n = X.size → (∀ a ∈ l, a.1.size ≤ 60 ∧ (kind = 8 → 0 ≤ a.2 ∧ a.2 < 256) ∧ (kind ≠ 8 → a.2 = 0)) → acc.length + l.length ≤ 6 → l.length < f →
    rAsks s kind f n false acc = (acc ++ l, s.size, false) := by
  intro l
  induction l with
  | nil =>
    intro acc X n f hs hn _ _ hf
    have hsz : n = s.size := by rw [hs, hn, asksS, ba_append_nil]
    cases f with
    | zero => simp at hf
    | succ f => rw [rAsks, if_neg (by omega), hsz]; simp
  | cons a l ih =>
    intro acc X n f hs hn ha hl hf
    obtain ⟨h1, h2, h3⟩ := ha a (by simp)
    have z1 := txtS_len (t := a.1) (by omega)
    have hs1 : s = X ++ askS kind a ++ asksS kind l := by rw [hs, asksS]; simp only [ba_assoc]
    obtain ⟨f, rfl⟩ : ∃ g, f = g + 1 := ⟨f - 1, by simp at hf; omega⟩
    by_cases h8 : kind = 8
    · have h2' := h2 h8
      have z2 := numS_size1 h2'.1 h2'.2
      have e : askS kind a = txtS a.1 ++ numS a.2 1 := by unfold askS; rw [if_pos h8, numsS_one]
      rw [e] at hs1
      have r1 := rt_back (s := s) (x := X) (t := a.1) (y := numS a.2 1 ++ asksS kind l) (n := n) (by rw [hs1]; simp only [ba_assoc]) hn (by omega)
      have r2 := rn_back (s := s) (x := X ++ txtS a.1) (v := a.2) (k := 1) (y := asksS kind l) (n := rtAt s n) (by rw [hs1]; simp only [ba_assoc]; rfl) (by rw [(r1 false).2.1, ByteArray.size_append]; omega) (by omega) (numE_in (.inl rfl) (by omega) (by omega))
      have ea : a1 s kind n = a := by unfold a1; rw [if_pos h8, (r1 false).1, (r2 false).1]
      have eb : a1Bad s kind n false = false := by unfold a1Bad; rw [if_pos h8, (r1 false).2.2, (r2 false).2.2]
      have et : a1At s kind n = (X ++ (txtS a.1 ++ numS a.2 1)).size := by unfold a1At; rw [if_pos h8, (r2 false).2.1, (r1 false).2.1]; simp only [ByteArray.size_append]; omega
      have hlt : n < s.size := by rw [hs1]; simp only [ByteArray.size_append]; omega
      rw [rAsks, if_pos ⟨rfl, hlt⟩, ea, eb, show addTo acc a = acc ++ [a] from if_pos (by simp at hl; omega)]
      rw [ih (acc ++ [a]) _ _ f hs1 et (fun x hx => ha x (by simp [hx])) (by simp at hl ⊢; omega) (by simp at hf; omega)]
      simp
    · have h3' := h3 h8
      have e : askS kind a = txtS a.1 := by unfold askS; rw [if_neg h8, ba_append_nil]
      rw [e] at hs1
      have r1 := rt_back (s := s) (x := X) (t := a.1) (y := asksS kind l) (n := n) hs1 hn (by omega)
      have ea : a1 s kind n = a := by unfold a1; rw [if_neg h8, (r1 false).1, ← h3']
      have eb : a1Bad s kind n false = false := by unfold a1Bad; rw [if_neg h8, (r1 false).2.2]
      have et : a1At s kind n = (X ++ txtS a.1).size := by unfold a1At; rw [if_neg h8, (r1 false).2.1]; simp only [ByteArray.size_append]; omega
      have hlt : n < s.size := by rw [hs1]; simp only [ByteArray.size_append]; omega
      rw [rAsks, if_pos ⟨rfl, hlt⟩, ea, eb, show addTo acc a = acc ++ [a] from if_pos (by simp at hl; omega)]
      rw [ih (acc ++ [a]) _ _ f hs1 et (fun x hx => ha x (by simp [hx])) (by simp at hl ⊢; omega) (by simp at hf; omega)]
      simp
/-- codes are read as they were -/
theorem codes_back {s : ByteArray} : ∀ (l acc : List Int) (X : ByteArray) (n f : Nat), s = X ++ numsS 1 l → n = X.size → (∀ a ∈ l, 0 ≤ a ∧ a < 256) → acc.length + l.length ≤ 6 → l.length < f →
    rCodes s f n false acc = (acc ++ l, s.size, false) := by
  intro l
  induction l with
  | nil =>
    intro acc X n f hs hn _ _ hf
    have hsz : n = s.size := by rw [hs, hn, numsS, ba_append_nil]
    cases f with
    | zero => simp at hf
    | succ f => rw [rCodes, if_neg (by omega), hsz]; simp
  | cons a l ih =>
    intro acc X n f hs hn ha hl hf
    obtain ⟨h1, h2⟩ := ha a (by simp)
    have z2 := numS_size1 h1 h2
    have hs1 : s = X ++ numS a 1 ++ numsS 1 l := by rw [hs, numsS]; simp only [ba_assoc]
    obtain ⟨f, rfl⟩ : ∃ g, f = g + 1 := ⟨f - 1, by simp at hf; omega⟩
    have r2 := rn_back (s := s) (x := X) (v := a) (k := 1) (y := numsS 1 l) (n := n) (by rw [hs1]; rfl) hn (by omega) (numE_in (.inl rfl) (by omega) (by omega))
    have hlt : n < s.size := by rw [hs1]; simp only [ByteArray.size_append]; omega
    rw [rCodes, if_pos ⟨rfl, hlt⟩, (r2 false).1, (r2 false).2.2, show addTo acc a = acc ++ [a] from if_pos (by simp at hl; omega)]
    rw [ih (acc ++ [a]) _ _ f hs1 (by rw [(r2 false).2.1, ByteArray.size_append]; omega) (fun x hx => ha x (by simp [hx])) (by simp at hl ⊢; omega) (by simp at hf; omega)]
    simp
end Go.Proofs.YtnjdpibgfbbkcabGreatDoor
/-
  What is encoded is decoded as it was, whole.
-/
namespace Go.Proofs.YtnjdpibgfbbkcabGreatDoor
open Go.RowKit Go.PlainAid

theorem chkP_kind {p : Pk} (h : chkP p = 0) : kindB p.kind = true ∧ bareB (wn p) = true ∧ (p.kind = 1 → connectE p = 0) ∧ (p.kind = 2 → connackE p = 0) ∧ (p.kind = 3 → publishE p = 0) ∧ (¬ (p.kind = 1 ∨ p.kind = 2 ∨ p.kind = 3 ∨ p.kind = 12 ∨ p.kind = 13 ∨ p.kind = 14) → withIdE p = 0) := by
  have hok := chkP_ok h
  unfold chkP at h
  rw [if_neg (by simp [hok.1]), if_neg (by simp [hok.2.1])] at h
  refine ⟨hok.1, hok.2.1, fun k => ?_, fun k => ?_, fun k => ?_, fun k => ?_⟩
  · rwa [if_pos k] at h
  · rwa [if_neg (by omega), if_pos k] at h
  · rwa [if_neg (by omega), if_neg (by omega), if_pos k] at h
  · rwa [if_neg (by omega), if_neg (by omega), if_neg (by omega), if_neg (by omega)] at h

theorem idE_ok {n : Int} (h : idE n = 0) : 1 ≤ n ∧ n ≤ 65535 := by unfold idE at h; split at h <;> omega
theorem connectE_ok {p : Pk} (h : connectE p = 0) : p.client.size ≤ 20 ∧ 0 ≤ p.keep ∧ p.keep ≤ 65535 := by
  unfold connectE at h
  split at h
  · simp at h
  · split at h
    · simp at h
    · split at h
      · simp at h
      · omega
theorem connackE_ok {p : Pk} (h : connackE p = 0) : 0 ≤ p.code ∧ p.code ≤ 5 := by
  unfold connackE at h
  split at h
  · simp at h
  · omega
theorem publishE_ok {p : Pk} (h : publishE p = 0) : chk nameF p.topic = 0 ∧ (p.qos = 0 ∨ p.qos = 1) ∧ (p.qos = 1 → 1 ≤ p.id ∧ p.id ≤ 65535) ∧ (p.qos = 0 → p.dup = false ∧ p.id = 0) := by
  unfold publishE at h
  by_cases h1 : chk nameF p.topic = 0
  · rw [if_neg (by simp [h1])] at h
    split at h
    · simp at h
    · split at h
      · simp at h
      · rename_i hq
        have hq' : p.qos = 0 ∨ p.qos = 1 := Decidable.not_not.1 hq
        refine ⟨h1, hq', fun k => ?_, fun k => ?_⟩
        · rw [if_pos k] at h; exact idE_ok h
        · rw [if_neg (by omega)] at h
          split at h
          · simp at h
          · rename_i hd
            cases hdd : p.dup with
            | true => exact absurd (.inl hdd) hd
            | false => exact ⟨rfl, Decidable.not_not.1 fun x => hd (.inr x)⟩
  · rw [if_pos h1] at h; exact absurd h h1

theorem first_bits (d r : Bool) (q : Int) (hq : q = 0 ∨ q = 1) : bitB ((3 : Int) * 16 + (flagN d 8 + q * 2 + flagN r 1)).toNat 8 = d ∧ bitB ((3 : Int) * 16 + (flagN d 8 + q * 2 + flagN r 1)).toNat 1 = r ∧ bitB ((3 : Int) * 16 + (flagN d 8 + q * 2 + flagN r 1)).toNat 2 = decide (q = 1) := by
  rcases hq with rfl | rfl <;> cases d <;> cases r <;> refine ⟨?_, ?_, ?_⟩ <;> decide +kernel

theorem first_ok {p : Pk} (hk : kindB p.kind = true) (hq : 0 ≤ p.qos ∧ p.qos ≤ 1) : 0 ≤ firstN p ∧ firstN p < 256 ∧ firstN p / 16 = p.kind := by
  have h1 := flagN_le p.dup 8 (by omega)
  have h2 := flagN_le p.retain 1 (by omega)
  simp only [kindB, decide_eq_true_eq] at hk
  unfold firstN
  split
  · rename_i h; omega
  · split <;> omega

theorem enc_len {p : Pk} (h : chkP p = 0) : ∃ u : Nat, lenOk (encP p) = true ∧ (glR (encP p) 1).2.1 = u ∧ encP p = (numS (firstN p) 1 ++ longS (bodyS p).size) ++ bodyS p ∧ 1 + u = (numS (firstN p) 1 ++ longS (bodyS p).size).size ∧ (bt (encP p) 0).toNat = (firstN p).toNat := by
  have hok := chkP_ok h
  have hf := first_ok hok.1 hok.2.2.2.2.2
  have hb := bodyS_size hok.2.2.1 hok.2.2.2.1 hok.2.2.2.2.1
  have z1 := numS_size1 hf.1 hf.2.1
  have hl : longS ((bodyS p).size : Int) = strOfNums (longL 3 (bodyS p).size) := if_neg (by omega)
  have he : encP p = (numS (firstN p) 1 ++ longS (bodyS p).size) ++ bodyS p := by unfold encP; rw [numsS_one]
  have hs : (encP p).size = 1 + (longS ((bodyS p).size : Int)).size + (bodyS p).size := by rw [he]; simp only [ByteArray.size_append]; omega
  have hg : glR (encP p) 1 = (((bodyS p).size : Int), ((longS ((bodyS p).size : Int)).size : Int), 0) := by
    have := long_back (bodyS p).size (by omega) (numS (firstN p) 1) (bodyS p)
    rw [z1, ← hl, ← he] at this
    unfold glR
    rw [if_neg (by omega)]
    exact this
  refine ⟨(longS ((bodyS p).size : Int)).size, ?_, by rw [hg], he, by rw [ByteArray.size_append]; omega, ?_⟩
  · unfold lenOk; rw [hg]; simp; omega
  · have hn := num_back (n := firstN p) (b := 1) (numE_in (k := 1) (.inl rfl) hf.1 (by simpa using hf.2.1)) ⟨#[]⟩ (longS ((bodyS p).size : Int) ++ bodyS p)
    rw [str_nil, ← ba_assoc, ← he] at hn
    rw [bt_getD]
    simp only [beN, Int.toNat_one] at hn
    have e0 : (⟨#[]⟩ : ByteArray).size = 0 := rfl
    simp only [e0, Nat.zero_add, Nat.mul_zero] at hn
    omega

theorem withIdE_ok {p : Pk} (h : withIdE p = 0) : (1 ≤ p.id ∧ p.id ≤ 65535) ∧ (p.kind = 8 ∨ p.kind = 10 → asksE p = 0) ∧ (p.kind = 9 → codesE p.codes = 0) := by
  unfold withIdE at h
  by_cases h1 : idE p.id = 0
  · rw [if_neg (by simp [h1])] at h
    refine ⟨idE_ok h1, fun k => ?_, fun k => ?_⟩
    · rwa [if_pos k] at h
    · rwa [if_neg (by omega), if_pos k] at h
  · rw [if_pos h1] at h; exact absurd h h1
theorem asksE_ok {p : Pk} (h : asksE p = 0) : p.asks.length ≤ 5 ∧ ∀ a ∈ p.asks, askE p.kind a = 0 := by
  unfold asksE at h
  by_cases h1 : countE p.asks.length = 0
  · rw [if_neg (by simp [h1])] at h
    exact ⟨(countE_ok h1).2, firstE_ok _ _ h⟩
  · rw [if_pos h1] at h; exact absurd h h1
theorem codesE_ok {l : List Int} (h : codesE l = 0) : l.length ≤ 5 ∧ ∀ a ∈ l, codeE a = 0 := by
  unfold codesE at h
  by_cases h1 : countE l.length = 0
  · rw [if_neg (by simp [h1])] at h
    exact ⟨(countE_ok h1).2, firstE_ok _ _ h⟩
  · rw [if_pos h1] at h; exact absurd h h1
theorem askE_ok {k : Int} {a : ByteArray × Int} (h : askE k a = 0) : a.1.size ≤ 60 ∧ (a.2 = 0 ∨ a.2 = 1) ∧ (k = 10 → a.2 = 0) := by
  unfold askE at h
  by_cases h1 : chk filtF a.1 = 0
  · rw [if_neg (by simp [h1])] at h
    split at h
    · simp at h
    · rename_i h2
      split at h
      · simp at h
      · rename_i h3
        exact ⟨(chk_ok h1).1, Decidable.not_not.1 h3, fun k => Decidable.not_not.1 fun x => h2 ⟨k, x⟩⟩
  · rw [if_pos h1] at h; exact absurd h h1
theorem codeE_ok {c : Int} (h : codeE c = 0) : 0 ≤ c ∧ c < 256 := by unfold codeE at h; split at h <;> omega

theorem asks_len (k : Int) (l : List (ByteArray × Int)) (h : ∀ a ∈ l, a.1.size ≤ 60) : l.length ≤ (asksS k l).size := by
  induction l with
  | nil => exact Nat.zero_le _
  | cons a l ih =>
    have h1 := txtS_len (t := a.1) (by have := h a (by simp); omega)
    have h2 := ih fun x hx => h x (by simp [hx])
    simp only [asksS, askS, ByteArray.size_append, List.length_cons]
    omega
theorem codes_len (l : List Int) (h : ∀ a ∈ l, 0 ≤ a ∧ a < 256) : l.length ≤ (numsS 1 l).size := by
  induction l with
  | nil => exact Nat.zero_le _
  | cons a l ih =>
    have h0 := h a (by simp)
    have h1 := numS_size1 h0.1 h0.2
    have h2 := ih fun x hx => h x (by simp [hx])
    simp only [numsS, ByteArray.size_append, List.length_cons]
    omega
/-- a packet without an error is read as it was, from behind its length on -/
theorem body_back {p : Pk} {X s : ByteArray} {n b : Nat} (h : chkP p = 0) (hs : s = X ++ bodyS p) (hn : n = X.size) (hb : b = (firstN p).toNat) : bodyR s n false b = (p, s.size, false) := by
  have hk := chkP_kind h
  have hok := chkP_ok h
  have hf := first_ok hok.1 hok.2.2.2.2.2
  have hz := bareB_ok hk.2.1
  have hkk : (kPk b).kind = p.kind := by show (b : Int) / 16 = _; omega
  have hkb := hk.1
  simp only [kindB, decide_eq_true_eq] at hkb
  unfold bodyR
  rw [hkk]
  by_cases h1 : p.kind = 1
  · rw [if_pos h1]
    have hE := connectE_ok (hk.2.2.1 h1)
    have hB : bodyS p = connectS p := if_pos h1
    rw [hB] at hs
    obtain ⟨r1, r2, r3, r4, r5⟩ := con_back hs hn hE.2 (Nat.le_trans hE.1 (by decide))
    rw [r1, r2]
    unfold conP
    rw [r3, r4, r5, flag2 _ _ (by decide)]
    rw [wn, if_pos h1] at hz
    obtain ⟨k, d, r, c, se, q, i, kp, cd, cl, tp, pl, l, cs⟩ := p
    simp only at hz hkk h1
    obtain ⟨rfl, rfl, _, rfl, rfl, rfl, _, rfl, _, rfl, rfl, rfl, rfl⟩ := hz
    simp only [kPk, zeroPk] at hkk ⊢
    rw [hkk]
  · rw [if_neg h1]
    by_cases h2 : p.kind = 2
    · rw [if_pos h2]
      have hE := connackE_ok (hk.2.2.2.1 h2)
      have hB : bodyS p = numsS 1 [flagN p.session 1, p.code] := (if_neg h1).trans (if_pos h2)
      rw [hB] at hs
      obtain ⟨r1, r2, r3, r4⟩ := ack_back hs hn ⟨hE.1, by omega⟩
      rw [r1, r2, r3, r4, flag2 _ _ (by decide)]
      rw [wn, if_neg h1, if_pos h2] at hz
      obtain ⟨k, d, r, c, se, q, i, kp, cd, cl, tp, pl, l, cs⟩ := p
      simp only at hz hkk h1
      obtain ⟨rfl, rfl, rfl, _, rfl, rfl, rfl, _, rfl, rfl, rfl, rfl, rfl⟩ := hz
      simp only [kPk, zeroPk] at hkk ⊢
      rw [hkk]
    · rw [if_neg h2]
      by_cases h3 : p.kind = 3
      · rw [if_pos h3]
        have hE := publishE_ok (hk.2.2.2.2.1 h3)
        have hB : bodyS p = publishS p := (if_neg h1).trans ((if_neg h2).trans (if_pos h3))
        rw [hB] at hs
        have hF : firstN p = (3 : Int) * 16 + (flagN p.dup 8 + p.qos * 2 + flagN p.retain 1) := by unfold firstN; rw [if_pos h3, h3]
        have hbits := first_bits p.dup p.retain p.qos hE.2.1
        rw [← hF, ← hb] at hbits
        obtain ⟨r1, r2, r3, r4⟩ := pub_back hs hn (Nat.le_trans (chk_ok hE.1).1 (by decide)) hbits.2.2 (fun k => by have := hE.2.2.1 k; omega)
        rw [r1]
        unfold pubP
        rw [r2, r4, hbits.1, hbits.2.1]
        rw [wn, if_neg h1, if_neg h2, if_pos h3] at hz
        obtain ⟨k, d, r, c, se, q, i, kp, cd, cl, tp, pl, l, cs⟩ := p
        simp only at hz hkk h1 hE r3 hbits
        obtain ⟨_, _, rfl, rfl, _, _, rfl, rfl, rfl, _, _, rfl, rfl⟩ := hz
        simp only [kPk, zeroPk] at hkk ⊢
        rcases hE.2.1 with hq | hq
        · have hb2 : ¬ bitB b 2 = true := by rw [hbits.2.2]; simp [hq]
          rw [if_neg hb2, if_neg hb2, hkk, hq, (hE.2.2.2 hq).2]
        · have hb2 : bitB b 2 = true := by rw [hbits.2.2]; simp [hq]
          rw [if_pos hb2, if_pos hb2, hkk, hq, r3 hq]
      · rw [if_neg h3]
        by_cases h4 : p.kind = 12 ∨ p.kind = 13 ∨ p.kind = 14
        · rw [if_pos h4]
          have hB : bodyS p = ⟨#[]⟩ := (if_neg h1).trans ((if_neg h2).trans ((if_neg h3).trans (if_pos h4)))
          rw [hB, ba_append_nil] at hs
          rw [wn, if_neg h1, if_neg h2, if_neg h3, if_neg (by omega), if_neg (by omega), if_neg (by omega)] at hz
          obtain ⟨k, d, r, c, se, q, i, kp, cd, cl, tp, pl, l, cs⟩ := p
          simp only at hz hkk h1
          obtain ⟨rfl, rfl, rfl, rfl, rfl, rfl, rfl, rfl, rfl, rfl, rfl, rfl, rfl⟩ := hz
          simp only [kPk, zeroPk] at hkk ⊢
          rw [hkk, hn, hs]
        · rw [if_neg h4]
          have hE := withIdE_ok (hk.2.2.2.2.2 (by omega))
          have hB : bodyS p = withIdS p := (if_neg h1).trans ((if_neg h2).trans ((if_neg h3).trans (if_neg h4)))
          rw [hB, withIdS, numsS_one] at hs
          have z1 := numS_size2 (v := p.id) (by omega) (by omega)
          have r1 := rn_back (s := s) (x := X) (v := p.id) (k := 2) (y := asksS p.kind p.asks ++ numsS 1 p.codes) (n := n) (by rw [hs]; simp only [ba_assoc]; rfl) hn (by omega) (numE_in (.inr rfl) (by omega) (by omega))
          unfold widR
          rw [hkk]
          by_cases h8 : p.kind = 8 ∨ p.kind = 10
          · rw [if_pos h8, (r1 false).1, (r1 false).2.1, (r1 false).2.2]
            have hA := asksE_ok (hE.2.1 h8)
            have hcodes : p.codes = [] := by rw [← wn_codes p (by omega)]; exact hz.2.2.2.2.2.2.2.2.2.2.2.2
            rw [hcodes, numsS, ba_append_nil, ← ba_assoc] at hs
            have hl := asks_back (s := s) (kind := p.kind) p.asks [] (X ++ numS p.id 2) (n + 2) (s.size + 1) hs (by rw [ByteArray.size_append]; omega) (fun a ha => by
              have := askE_ok (hA.2 a ha)
              refine ⟨this.1, fun _ => by omega, fun hne => this.2.2 (by omega)⟩) (by simp; omega) (by
              have hsz : s.size = X.size + 2 + (asksS p.kind p.asks).size := by rw [hs]; simp only [ByteArray.size_append]; omega
              have := asks_len p.kind p.asks (fun a ha => (askE_ok (hA.2 a ha)).1)
              omega)
            rw [hl]
            rw [wn, if_neg h1, if_neg h2, if_neg h3, if_neg (by omega), if_pos h8] at hz
            obtain ⟨k, d, r, c, se, q, i, kp, cd, cl, tp, pl, l, cs⟩ := p
            simp only at hz hkk h1
            obtain ⟨rfl, rfl, rfl, rfl, rfl, _, rfl, rfl, rfl, rfl, rfl, _, rfl⟩ := hz
            simp only [kPk, zeroPk, List.nil_append] at hkk ⊢
          · rw [if_neg h8]
            have hasks : p.asks = [] := by rw [← wn_asks p h8]; exact hz.2.2.2.2.2.2.2.2.2.2.2.1
            by_cases h9 : p.kind = 9
            · rw [if_pos h9, (r1 false).1, (r1 false).2.1, (r1 false).2.2]
              have hC := codesE_ok (hE.2.2 h9)
              rw [hasks, asksS, ba_append_nil, ← ba_assoc] at hs
              have hl := codes_back (s := s) p.codes [] (X ++ numS p.id 2) (n + 2) (s.size + 1) hs (by rw [ByteArray.size_append]; omega) (fun a ha => codeE_ok (hC.2 a ha)) (by simp; omega) (by
                have hsz : s.size = X.size + 2 + (numsS 1 p.codes).size := by rw [hs]; simp only [ByteArray.size_append]; omega
                have := codes_len p.codes (fun a ha => codeE_ok (hC.2 a ha))
                omega)
              rw [hl]
              rw [wn, if_neg h1, if_neg h2, if_neg h3, if_neg (by omega), if_neg h8, if_pos h9] at hz
              obtain ⟨k, d, r, c, se, q, i, kp, cd, cl, tp, pl, l, cs⟩ := p
              simp only at hz hkk h1
              obtain ⟨rfl, rfl, rfl, rfl, rfl, _, rfl, rfl, rfl, rfl, rfl, rfl, _⟩ := hz
              simp only [kPk, zeroPk, List.nil_append] at hkk ⊢
            · rw [if_neg h9, (r1 false).1, (r1 false).2.1, (r1 false).2.2]
              have hcodes : p.codes = [] := by rw [← wn_codes p h9]; exact hz.2.2.2.2.2.2.2.2.2.2.2.2
              have hsz : n + 2 = s.size := by rw [hs, hasks, hcodes, asksS, numsS, ba_append_nil, ba_append_nil, ByteArray.size_append]; omega
              rw [hsz]
              rw [wn, if_neg h1, if_neg h2, if_neg h3, if_pos (by omega)] at hz
              obtain ⟨k, d, r, c, se, q, i, kp, cd, cl, tp, pl, l, cs⟩ := p
              simp only at hz hkk h1
              obtain ⟨rfl, rfl, rfl, rfl, rfl, _, rfl, rfl, rfl, rfl, rfl, rfl, rfl⟩ := hz
              simp only [kPk, zeroPk] at hkk ⊢

/-- WHAT IS ENCODED IS DECODED AS IT WAS -/
theorem rd_enc {p : Pk} (h : chkP p = 0) : rdP (encP p) = p ∧ rdB (encP p) = true := by
  obtain ⟨u, h1, h2, h3, h4, h5⟩ := enc_len h
  have hok := chkP_ok h
  have hf := first_ok hok.1 hok.2.2.2.2.2
  have hkk : (kPk (firstN p).toNat).kind = p.kind := by show ((firstN p).toNat : Int) / 16 = _; omega
  have hb := body_back (b := (firstN p).toNat) h h3 h4 rfl
  have hp : packR (encP p) (1 + u) false (firstN p).toNat = (p, (encP p).size, false) := by
    unfold packR
    rw [hkk, hok.1]
    simp only [Bool.not_true, Bool.or_false]
    rw [hb]
    have e : ((firstN p).toNat : Int) = firstN p := by omega
    simp [e]
  have hu : (glR (encP p) 1).2.1.toNat = u := by rw [h2]; rfl
  constructor
  · unfold rdP; rw [if_pos h1, hu, h5, hp]
  · unfold rdB; rw [h1, hu, h5, hp]; simp

theorem dec_enc {p : Pk} (h : chkP p = 0) : decP (encP p) = p ∧ decE (encP p) = 0 := by
  obtain ⟨h1, h2⟩ := rd_enc h
  have e : decE (encP p) = 0 := by unfold decE; rw [if_neg (by simp [h2]), h1, h]
  exact ⟨by unfold decP; rw [if_pos e, h1], e⟩
end Go.Proofs.YtnjdpibgfbbkcabGreatDoor
/-
  No packet's bytes are the beginning of another one's.
-/
namespace Go.Proofs.YtnjdpibgfbbkcabGreatDoor
open Go.RowKit Go.PlainAid

theorem bt_prefix {s t : ByteArray} (h : ∃ y, t = s ++ y) (k : Nat) (hk : k < s.size) : bt t k = bt s k := by
  obtain ⟨y, rfl⟩ := h
  rw [bt_getD, bt_getD]
  have e : s.data.toList.length = s.size := by simp
  simp only [ByteArray.data_append, Array.toList_append, List.getD_eq_getElem?_getD]
  rw [List.getElem?_append_left (by omega)]
theorem gl_prefix {s t : ByteArray} (h : ∃ y, t = s ++ y) (a : Nat) : ∀ (f i : Nat) (m : Int), (glGo s a f i m).2.2 = 0 → glGo t a f i m = glGo s a f i m := by
  have hsz : s.size ≤ t.size := by obtain ⟨y, rfl⟩ := h; rw [ByteArray.size_append]; omega
  intro f
  induction f with
  | zero => intro i m h0; simp [glGo] at h0
  | succ f ih =>
    intro i m h0
    by_cases h1 : s.size ≤ a + i
    · rw [glGo, if_pos h1] at h0; simp at h0
    · have hb := bt_prefix h (a + i) (by omega)
      rw [glGo, if_neg (by omega), hb]
      rw [glGo, if_neg h1] at h0 ⊢
      by_cases h2 : 128 ≤ bt s (a + i)
      · rw [if_pos h2] at h0
        rw [if_pos h2, if_pos h2]
        exact ih _ _ h0
      · rw [if_neg h2, if_neg h2]

/-- two packets, the one's bytes the beginning of the other one's: they are one -/
theorem apart {p q : Pk} (hp : chkP p = 0) (hq : chkP q = 0) (h : ∃ y, encP q = encP p ++ y) : p = q := by
  obtain ⟨u, h1, h2, _, _, _⟩ := enc_len hp
  obtain ⟨v, g1, g2, _, _, _⟩ := enc_len hq
  obtain ⟨u', a1, a2, a3, a4, a5, a6⟩ := lenOk_ok h1
  obtain ⟨v', b1, b2, b3, b4, b5, b6⟩ := lenOk_ok g1
  have hgl : glR (encP q) 1 = glR (encP p) 1 := by
    have hsz : (encP p).size ≤ (encP q).size := by obtain ⟨y, hy⟩ := h; rw [hy, ByteArray.size_append]; omega
    have e1 : glR (encP p) 1 = glGo (encP p) 1 4 0 0 := by unfold glR; rw [if_neg (by omega)]; rfl
    have e2 : glR (encP q) 1 = glGo (encP q) 1 4 0 0 := by unfold glR; rw [if_neg (by omega)]; rfl
    rw [e1, e2]
    refine gl_prefix h 1 4 0 0 ?_
    rw [← e1]; exact a2
  have hsz : (encP p).size = (encP q).size := by rw [hgl] at b1 b6; rw [a1] at b1; omega
  obtain ⟨y, hy⟩ := h
  have hy0 : y = ⟨#[]⟩ := by
    have : y.size = 0 := by rw [hy, ByteArray.size_append] at hsz; omega
    exact ByteArray.ext (Array.eq_empty_of_size_eq_zero this)
  rw [hy0, ba_append_nil] at hy
  have d1 := (rd_enc hp).1
  have d2 := (rd_enc hq).1
  rw [hy, d1] at d2
  exact d2
end Go.Proofs.YtnjdpibgfbbkcabGreatDoor
