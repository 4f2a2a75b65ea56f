/-
  Packets that fit their bytes, right or wrong otherwise: there and back: plain facts (for the reference's PacketOf).
-/
import Derived.Test.YtnjdpibgfbbkcabGreatDoorPacketForthAll
import Derived.Test.YtnjdpibgfbbkcabGreatDoorReaderBase
namespace Go.Proofs.YtnjdpibgfbbkcabGreatDoor
open Go.RowKit Go.PlainAid

/-- do its numbers and texts fit their bytes? -/
structure FitP (p : Pk) : Prop where
  kind : kindB p.kind = true
  bare : bareB (wn p) = true
  con : p.kind = 1 → p.client.size ≤ 65535 ∧ 0 ≤ p.keep ∧ p.keep ≤ 65535
  ack : p.kind = 2 → 0 ≤ p.code ∧ p.code ≤ 255
  pub : p.kind = 3 → p.topic.size ≤ 65535 ∧ (p.qos = 0 ∨ p.qos = 1) ∧ (p.qos = 1 → 0 ≤ p.id ∧ p.id ≤ 65535) ∧ (p.qos = 0 → p.id = 0)
  wid : ¬ (p.kind = 1 ∨ p.kind = 2 ∨ p.kind = 3 ∨ p.kind = 12 ∨ p.kind = 13 ∨ p.kind = 14) → 0 ≤ p.id ∧ p.id ≤ 65535
  asks : ∀ a ∈ p.asks, a.1.size ≤ 65535 ∧ (0 ≤ a.2 ∧ a.2 ≤ 255) ∧ (p.kind ≠ 8 → a.2 = 0)
  codes : ∀ a ∈ p.codes, 0 ≤ a ∧ a ≤ 255

/-- of lists that are too long, six -/
def cutP (p : Pk) : Pk := { p with asks := p.asks.take 6, codes := p.codes.take 6 }

theorem addTo_take {α : Type} (acc : List α) (x : α) : addTo (acc.take 6) x = (acc ++ [x]).take 6 := by
  unfold addTo
  by_cases h : acc.length ≤ 5
  · rw [List.take_of_length_le (l := acc) (by omega), if_pos h, List.take_of_length_le (by simp; omega)]
  · rw [if_neg (by rw [List.length_take]; omega), List.take_append_of_le_length (by omega)]

theorem asks_cut {s : ByteArray} {kind : Int} : ∀ (l acc : List (ByteArray × Int)) (X : ByteArray) (n f : Nat), s = X ++ asksS kind l → n = X.size → (∀ a ∈ l, a.1.size ≤ 65535 ∧ (0 ≤ a.2 ∧ a.2 ≤ 255) ∧ (kind ≠ 8 → a.2 = 0)) → l.length < f →
    rAsks s kind f n false (acc.take 6) = ((acc ++ l).take 6, s.size, false) := by
  intro l
  induction l with
  | nil =>
    intro acc X n f hs hn _ hf
    have hsz : n = s.size := by rw [hs, hn, asksS, ba_append_nil]
    cases f with
    | zero => simp at hf
    | succ f => rw [rAsks, if_neg (by omega), hsz]; simp
  | cons a l ih =>
    intro acc X n f hs hn ha hf
    obtain ⟨h1, h2, h3⟩ := ha a (by simp)
    have z1 := txtS_len (t := a.1) (by omega)
    have hs1 : s = X ++ askS kind a ++ asksS kind l := by rw [hs, asksS]; simp only [ba_assoc]
    obtain ⟨f, rfl⟩ : ∃ g, f = g + 1 := ⟨f - 1, by simp at hf; omega⟩
    by_cases h8 : kind = 8
    · have z2 := numS_size1 h2.1 (by omega)
      have e : askS kind a = txtS a.1 ++ numS a.2 1 := by unfold askS; rw [if_pos h8, numsS_one]
      rw [e] at hs1
      have r1 := rt_back (s := s) (x := X) (t := a.1) (y := numS a.2 1 ++ asksS kind l) (n := n) (by rw [hs1]; simp only [ba_assoc]) hn (by omega)
      have r2 := rn_back (s := s) (x := X ++ txtS a.1) (v := a.2) (k := 1) (y := asksS kind l) (n := rtAt s n) (by rw [hs1]; simp only [ba_assoc]; rfl) (by rw [(r1 false).2.1, ByteArray.size_append]; omega) (by omega) (numE_in (.inl rfl) (by omega) (by omega))
      have ea : a1 s kind n = a := by unfold a1; rw [if_pos h8, (r1 false).1, (r2 false).1]
      have eb : a1Bad s kind n false = false := by unfold a1Bad; rw [if_pos h8, (r1 false).2.2, (r2 false).2.2]
      have et : a1At s kind n = (X ++ (txtS a.1 ++ numS a.2 1)).size := by unfold a1At; rw [if_pos h8, (r2 false).2.1, (r1 false).2.1]; simp only [ByteArray.size_append]; omega
      have hlt : n < s.size := by rw [hs1]; simp only [ByteArray.size_append]; omega
      rw [rAsks, if_pos ⟨rfl, hlt⟩, ea, eb, addTo_take]
      rw [ih (acc ++ [a]) _ _ f hs1 et (fun x hx => ha x (by simp [hx])) (by simp at hf; omega)]
      simp
    · have h3' := h3 h8
      have e : askS kind a = txtS a.1 := by unfold askS; rw [if_neg h8, ba_append_nil]
      rw [e] at hs1
      have r1 := rt_back (s := s) (x := X) (t := a.1) (y := asksS kind l) (n := n) hs1 hn (by omega)
      have ea : a1 s kind n = a := by unfold a1; rw [if_neg h8, (r1 false).1, ← h3']
      have eb : a1Bad s kind n false = false := by unfold a1Bad; rw [if_neg h8, (r1 false).2.2]
      have et : a1At s kind n = (X ++ txtS a.1).size := by unfold a1At; rw [if_neg h8, (r1 false).2.1]; simp only [ByteArray.size_append]; omega
      have hlt : n < s.size := by rw [hs1]; simp only [ByteArray.size_append]; omega
      rw [rAsks, if_pos ⟨rfl, hlt⟩, ea, eb, addTo_take]
      rw [ih (acc ++ [a]) _ _ f hs1 et (fun x hx => ha x (by simp [hx])) (by simp at hf; omega)]
      simp
theorem codes_cut {s : ByteArray} : ∀ (l acc : List Int) (X : ByteArray) (n f : Nat), s = X ++ numsS 1 l → n = X.size → (∀ a ∈ l, 0 ≤ a ∧ a ≤ 255) → l.length < f →
    rCodes s f n false (acc.take 6) = ((acc ++ l).take 6, s.size, false) := by
  intro l
  induction l with
  | nil =>
    intro acc X n f hs hn _ hf
    have hsz : n = s.size := by rw [hs, hn, numsS, ba_append_nil]
    cases f with
    | zero => simp at hf
    | succ f => rw [rCodes, if_neg (by omega), hsz]; simp
  | cons a l ih =>
    intro acc X n f hs hn ha hf
    obtain ⟨h1, h2⟩ := ha a (by simp)
    have z2 := numS_size1 h1 (by omega)
    have hs1 : s = X ++ numS a 1 ++ numsS 1 l := by rw [hs, numsS]; simp only [ba_assoc]
    obtain ⟨f, rfl⟩ : ∃ g, f = g + 1 := ⟨f - 1, by simp at hf; omega⟩
    have r2 := rn_back (s := s) (x := X) (v := a) (k := 1) (y := numsS 1 l) (n := n) (by rw [hs1]; rfl) hn (by omega) (numE_in (.inl rfl) (by omega) (by omega))
    have hlt : n < s.size := by rw [hs1]; simp only [ByteArray.size_append]; omega
    rw [rCodes, if_pos ⟨rfl, hlt⟩, (r2 false).1, (r2 false).2.2, addTo_take]
    rw [ih (acc ++ [a]) _ _ f hs1 (by rw [(r2 false).2.1, ByteArray.size_append]; omega) (fun x hx => ha x (by simp [hx])) (by simp at hf; omega)]
    simp
theorem asks_len65 (k : Int) (l : List (ByteArray × Int)) (h : ∀ a ∈ l, a.1.size ≤ 65535) : l.length ≤ (asksS k l).size := by
  induction l with
  | nil => exact Nat.zero_le _
  | cons a l ih =>
    have h1 := txtS_len (t := a.1) (h a (by simp))
    have h2 := ih fun x hx => h x (by simp [hx])
    simp only [asksS, askS, ByteArray.size_append, List.length_cons]
    omega

/-- a packet that fits is read as it was, but for lists that are too long -/
theorem body_fit {p : Pk} {X s : ByteArray} {n b : Nat} (h : FitP p) (hs : s = X ++ bodyS p) (hn : n = X.size) (hb : b = (firstN p).toNat) (hq : 0 ≤ p.qos ∧ p.qos ≤ 1) : bodyR s n false b = (cutP p, s.size, false) := by
  have hf := first_ok h.kind hq
  have hz := bareB_ok h.bare
  have hkk : (kPk b).kind = p.kind := by show (b : Int) / 16 = _; omega
  have hkb := h.kind
  simp only [kindB, decide_eq_true_eq] at hkb
  unfold bodyR
  rw [hkk]
  by_cases h1 : p.kind = 1
  · rw [if_pos h1]
    have hE := h.con h1
    have hB : bodyS p = connectS p := if_pos h1
    rw [hB] at hs
    obtain ⟨r1, r2, r3, r4, r5⟩ := con_back hs hn hE.2 hE.1
    rw [r1, r2]
    unfold conP
    rw [r3, r4, r5, flag2 _ _ (by decide)]
    rw [wn, if_pos h1] at hz
    clear h
    obtain ⟨k, d, r, c, se, q, i, kp, cd, cl, tp, pl, l, cs⟩ := p
    simp only at hz hkk h1
    obtain ⟨rfl, rfl, _, rfl, rfl, rfl, _, rfl, _, rfl, rfl, rfl, rfl⟩ := hz
    simp only [kPk, zeroPk, cutP] at hkk ⊢
    first | (rw [hkk]; rfl) | rfl
  · rw [if_neg h1]
    by_cases h2 : p.kind = 2
    · rw [if_pos h2]
      have hE := h.ack h2
      have hB : bodyS p = numsS 1 [flagN p.session 1, p.code] := (if_neg h1).trans (if_pos h2)
      rw [hB] at hs
      obtain ⟨r1, r2, r3, r4⟩ := ack_back hs hn hE
      rw [r1, r2, r3, r4, flag2 _ _ (by decide)]
      rw [wn, if_neg h1, if_pos h2] at hz
      clear h
      obtain ⟨k, d, r, c, se, q, i, kp, cd, cl, tp, pl, l, cs⟩ := p
      simp only at hz hkk h1
      obtain ⟨rfl, rfl, rfl, _, rfl, rfl, rfl, _, rfl, rfl, rfl, rfl, rfl⟩ := hz
      simp only [kPk, zeroPk, cutP] at hkk ⊢
      first | (rw [hkk]; rfl) | rfl
    · rw [if_neg h2]
      by_cases h3 : p.kind = 3
      · rw [if_pos h3]
        have hE := h.pub h3
        have hB : bodyS p = publishS p := (if_neg h1).trans ((if_neg h2).trans (if_pos h3))
        rw [hB] at hs
        have hF : firstN p = (3 : Int) * 16 + (flagN p.dup 8 + p.qos * 2 + flagN p.retain 1) := by unfold firstN; rw [if_pos h3, h3]
        have hbits := first_bits p.dup p.retain p.qos hE.2.1
        rw [← hF, ← hb] at hbits
        obtain ⟨r1, r2, r3, r4⟩ := pub_back hs hn hE.1 hbits.2.2 hE.2.2.1
        rw [r1]
        unfold pubP
        rw [r2, r4, hbits.1, hbits.2.1]
        rw [wn, if_neg h1, if_neg h2, if_pos h3] at hz
        clear h
        obtain ⟨k, d, r, c, se, q, i, kp, cd, cl, tp, pl, l, cs⟩ := p
        simp only at hz hkk h1 hE r3 hbits
        obtain ⟨_, _, rfl, rfl, _, _, rfl, rfl, rfl, _, _, rfl, rfl⟩ := hz
        simp only [kPk, zeroPk, cutP] at hkk ⊢
        rcases hE.2.1 with hq | hq
        · have hb2 : ¬ bitB b 2 = true := by rw [hbits.2.2]; simp [hq]
          rw [if_neg hb2, if_neg hb2, hkk, hq, hE.2.2.2 hq]; rfl
        · have hb2 : bitB b 2 = true := by rw [hbits.2.2]; simp [hq]
          rw [if_pos hb2, if_pos hb2, hkk, hq, r3 hq]; rfl
      · rw [if_neg h3]
        by_cases h4 : p.kind = 12 ∨ p.kind = 13 ∨ p.kind = 14
        · rw [if_pos h4]
          have hB : bodyS p = ⟨#[]⟩ := (if_neg h1).trans ((if_neg h2).trans ((if_neg h3).trans (if_pos h4)))
          rw [hB, ba_append_nil] at hs
          rw [wn, if_neg h1, if_neg h2, if_neg h3, if_neg (by omega), if_neg (by omega), if_neg (by omega)] at hz
          clear h
          obtain ⟨k, d, r, c, se, q, i, kp, cd, cl, tp, pl, l, cs⟩ := p
          simp only at hz hkk h1
          obtain ⟨rfl, rfl, rfl, rfl, rfl, rfl, rfl, rfl, rfl, rfl, rfl, rfl, rfl⟩ := hz
          simp only [kPk, zeroPk, cutP] at hkk ⊢
          rw [hkk, hn, hs]; rfl
        · rw [if_neg h4]
          have hE := h.wid (by omega)
          have hA := h.asks
          have hC := h.codes
          have hB : bodyS p = withIdS p := (if_neg h1).trans ((if_neg h2).trans ((if_neg h3).trans (if_neg h4)))
          rw [hB, withIdS, numsS_one] at hs
          have z1 := numS_size2 (v := p.id) (by omega) (by omega)
          have r1 := rn_back (s := s) (x := X) (v := p.id) (k := 2) (y := asksS p.kind p.asks ++ numsS 1 p.codes) (n := n) (by rw [hs]; simp only [ba_assoc]; rfl) hn (by omega) (numE_in (.inr rfl) (by omega) (by omega))
          unfold widR
          rw [hkk]
          by_cases h8 : p.kind = 8 ∨ p.kind = 10
          · rw [if_pos h8, (r1 false).1, (r1 false).2.1, (r1 false).2.2]
            have hcodes : p.codes = [] := by rw [← wn_codes p (by omega)]; exact hz.2.2.2.2.2.2.2.2.2.2.2.2
            rw [hcodes, numsS, ba_append_nil, ← ba_assoc] at hs
            have hl := asks_cut (s := s) (kind := p.kind) p.asks [] (X ++ numS p.id 2) (n + 2) (s.size + 1) hs (by rw [ByteArray.size_append]; omega) hA (by
              have hsz : s.size = X.size + 2 + (asksS p.kind p.asks).size := by rw [hs]; simp only [ByteArray.size_append]; omega
              have := asks_len65 p.kind p.asks (fun a ha => (hA a ha).1)
              omega)
            rw [List.take_nil] at hl
            rw [hl]
            rw [wn, if_neg h1, if_neg h2, if_neg h3, if_neg (by omega), if_pos h8] at hz
            clear h
            obtain ⟨k, d, r, c, se, q, i, kp, cd, cl, tp, pl, l, cs⟩ := p
            simp only at hz hkk h1
            obtain ⟨rfl, rfl, rfl, rfl, rfl, _, rfl, rfl, rfl, rfl, rfl, _, rfl⟩ := hz
            simp only [kPk, zeroPk, List.nil_append, cutP] at hkk ⊢
            first | (rw [hkk]; rfl) | rfl
          · rw [if_neg h8]
            have hasks : p.asks = [] := by rw [← wn_asks p h8]; exact hz.2.2.2.2.2.2.2.2.2.2.2.1
            by_cases h9 : p.kind = 9
            · rw [if_pos h9, (r1 false).1, (r1 false).2.1, (r1 false).2.2]
              rw [hasks, asksS, ba_append_nil, ← ba_assoc] at hs
              have hl := codes_cut (s := s) p.codes [] (X ++ numS p.id 2) (n + 2) (s.size + 1) hs (by rw [ByteArray.size_append]; omega) hC (by
                have hsz : s.size = X.size + 2 + (numsS 1 p.codes).size := by rw [hs]; simp only [ByteArray.size_append]; omega
                have := codes_len p.codes (fun a ha => by have := hC a ha; omega)
                omega)
              rw [List.take_nil] at hl
              rw [hl]
              rw [wn, if_neg h1, if_neg h2, if_neg h3, if_neg (by omega), if_neg h8, if_pos h9] at hz
              clear h
              obtain ⟨k, d, r, c, se, q, i, kp, cd, cl, tp, pl, l, cs⟩ := p
              simp only at hz hkk h1
              obtain ⟨rfl, rfl, rfl, rfl, rfl, _, rfl, rfl, rfl, rfl, rfl, rfl, _⟩ := hz
              simp only [kPk, zeroPk, List.nil_append, cutP] at hkk ⊢
              first | (rw [hkk]; rfl) | rfl
            · rw [if_neg h9, (r1 false).1, (r1 false).2.1, (r1 false).2.2]
              have hcodes : p.codes = [] := by rw [← wn_codes p h9]; exact hz.2.2.2.2.2.2.2.2.2.2.2.2
              have hsz : n + 2 = s.size := by rw [hs, hasks, hcodes, asksS, numsS, ba_append_nil, ba_append_nil, ByteArray.size_append]; omega
              rw [hsz]
              rw [wn, if_neg h1, if_neg h2, if_neg h3, if_pos (by omega)] at hz
              clear h
              obtain ⟨k, d, r, c, se, q, i, kp, cd, cl, tp, pl, l, cs⟩ := p
              simp only at hz hkk h1
              obtain ⟨rfl, rfl, rfl, rfl, rfl, _, rfl, rfl, rfl, rfl, rfl, rfl, rfl⟩ := hz
              simp only [kPk, zeroPk, cutP] at hkk ⊢
              first | (rw [hkk]; rfl) | rfl

theorem FitP.qos {p : Pk} (h : FitP p) : 0 ≤ p.qos ∧ p.qos ≤ 1 := by
  by_cases h3 : p.kind = 3
  · have := (h.pub h3).2.1; omega
  · have := (bareB_ok h.bare).2.2.2.2.1; rw [wn_qos p h3] at this; omega

theorem len_fit {p : Pk} (h : FitP p) (hb : (bodyS p).size ≤ 268435455) : ∃ u : Nat, lenOk (encP p) = true ∧ (glR (encP p) 1).2.1 = u ∧ encP p = (numS (firstN p) 1 ++ longS (bodyS p).size) ++ bodyS p ∧ 1 + u = (numS (firstN p) 1 ++ longS (bodyS p).size).size ∧ (bt (encP p) 0).toNat = (firstN p).toNat := by
  have hf := first_ok h.kind h.qos
  have z1 := numS_size1 hf.1 hf.2.1
  have hl : longS ((bodyS p).size : Int) = strOfNums (longL 3 (bodyS p).size) := if_neg (by omega)
  have he : encP p = (numS (firstN p) 1 ++ longS (bodyS p).size) ++ bodyS p := by unfold encP; rw [numsS_one]
  have hs : (encP p).size = 1 + (longS ((bodyS p).size : Int)).size + (bodyS p).size := by rw [he]; simp only [ByteArray.size_append]; omega
  have hg : glR (encP p) 1 = (((bodyS p).size : Int), ((longS ((bodyS p).size : Int)).size : Int), 0) := by
    have := long_back (bodyS p).size (by omega) (numS (firstN p) 1) (bodyS p)
    rw [z1, ← hl, ← he] at this
    unfold glR
    rw [if_neg (by omega)]
    exact this
  refine ⟨(longS ((bodyS p).size : Int)).size, ?_, by rw [hg], he, by rw [ByteArray.size_append]; omega, ?_⟩
  · unfold lenOk; rw [hg]; simp; omega
  · have hn := num_back (n := firstN p) (b := 1) (numE_in (k := 1) (.inl rfl) hf.1 (by simpa using hf.2.1)) ⟨#[]⟩ (longS ((bodyS p).size : Int) ++ bodyS p)
    rw [str_nil, ← ba_assoc, ← he] at hn
    rw [bt_getD]
    simp only [beN, Int.toNat_one] at hn
    have e0 : (⟨#[]⟩ : ByteArray).size = 0 := rfl
    simp only [e0, Nat.zero_add, Nat.mul_zero] at hn
    omega

/-- what fits is read, whatever is wrong with it otherwise -/
theorem rd_fit {p : Pk} (h : FitP p) (hl : (bodyS p).size ≤ 268435455) : rdP (encP p) = cutP p ∧ rdB (encP p) = true := by
  obtain ⟨u, h1, h2, h3, h4, h5⟩ := len_fit h hl
  have hf := first_ok h.kind h.qos
  have hkk : (kPk (firstN p).toNat).kind = p.kind := by show ((firstN p).toNat : Int) / 16 = _; omega
  have hb := body_fit (b := (firstN p).toNat) h h3 h4 rfl h.qos
  have hp : packR (encP p) (1 + u) false (firstN p).toNat = (cutP p, (encP p).size, false) := by
    unfold packR
    rw [hkk, h.kind]
    simp only [Bool.not_true, Bool.or_false]
    rw [hb]
    have e : ((firstN p).toNat : Int) = firstN p := by omega
    have e2 : firstN (cutP p) = firstN p := rfl
    simp [e, e2]
  have hu : (glR (encP p) 1).2.1.toNat = u := by rw [h2]; rfl
  constructor
  · unfold rdP; rw [if_pos h1, hu, h5, hp]
  · unfold rdB; rw [h1, hu, h5, hp]; simp

/-- lists that are too long are told so, cut or not -/
theorem count_take (n : Nat) {α : Type} (l : List α) (hn : 6 ≤ n) : countE (l.take n).length = countE l.length := by
  unfold countE
  rw [List.length_take]
  by_cases h0 : l.length = 0
  · rw [if_pos h0, if_pos (by omega)]
  · rw [if_neg h0, if_neg (by omega)]
    by_cases h5 : 5 < l.length
    · rw [if_pos h5, if_pos (by omega)]
    · rw [if_neg h5, if_neg (by omega)]
theorem count_big {l : Nat} (h : 5 < l) : countE l = 2 := by unfold countE; rw [if_neg (by omega), if_pos h]
theorem chk_cut (p : Pk) : chkP (cutP p) = chkP p := by
  have hwn : bareB (wn (cutP p)) = bareB (wn p) := by
    have ea : decide (0 < (cutP p).asks.length) = decide (0 < p.asks.length) := by rw [Bool.eq_iff_iff]; simp only [decide_eq_true_eq, cutP, List.length_take]; omega
    have ec : decide (0 < (cutP p).codes.length) = decide (0 < p.codes.length) := by rw [Bool.eq_iff_iff]; simp only [decide_eq_true_eq, cutP, List.length_take]; omega
    unfold wn
    show bareB (if p.kind = 1 then _ else _) = bareB (if p.kind = 1 then _ else _)
    have ek : (cutP p).kind = p.kind := rfl
    rw [ek]
    (repeat' split) <;> (simp only [bareB, ea, ec]; try rfl)
  have ha : asksE (cutP p) = asksE p := by
    unfold asksE
    show (if countE (p.asks.take 6).length ≠ 0 then countE (p.asks.take 6).length else firstE (askE p.kind) (p.asks.take 6)) = _
    rw [count_take 6 _ (by omega)]
    by_cases h : p.asks.length ≤ 5
    · rw [List.take_of_length_le (by omega)]
    · rw [if_pos (by rw [count_big (by omega)]; decide), if_pos (by rw [count_big (by omega)]; decide)]
  have hc : codesE (cutP p).codes = codesE p.codes := by
    unfold codesE
    show (if countE (p.codes.take 6).length ≠ 0 then countE (p.codes.take 6).length else firstE codeE (p.codes.take 6)) = _
    rw [count_take 6 _ (by omega)]
    by_cases h : p.codes.length ≤ 5
    · rw [List.take_of_length_le (by omega)]
    · rw [if_pos (by rw [count_big (by omega)]; decide), if_pos (by rw [count_big (by omega)]; decide)]
  have hw : withIdE (cutP p) = withIdE p := by
    unfold withIdE
    rw [ha, hc]
    rfl
  unfold chkP
  rw [hwn, hw]
  rfl
theorem cut_same {p : Pk} (h : chkP p = 0) : cutP p = p := by
  have := chkP_ok h
  unfold cutP
  rw [List.take_of_length_le (by omega), List.take_of_length_le (by omega)]

/-- bytes that are a packet's that fits: what Decode answers -/
theorem dec_fit {p : Pk} {s : ByteArray} (h : FitP p) (hl : s.size ≤ 268435455) (hs : encP p = s) : decE s = chkP p ∧ (chkP p = 0 → decP s = p) ∧ (chkP p ≠ 0 → decP s = zeroPk) := by
  have hb : (bodyS p).size ≤ 268435455 := by
    have : (encP p).size = (numsS 1 [firstN p] ++ longS (bodyS p).size).size + (bodyS p).size := by unfold encP; rw [ByteArray.size_append]
    rw [hs] at this; omega
  obtain ⟨h1, h2⟩ := rd_fit h hb
  rw [hs] at h1 h2
  have e : decE s = chkP p := by unfold decE; rw [if_neg (by simp [h2]), h1, chk_cut]
  refine ⟨e, fun h0 => ?_, fun h0 => ?_⟩
  · unfold decP; rw [if_pos (by rw [e, h0]), h1, cut_same h0]
  · unfold decP; rw [if_neg (by rw [e]; exact h0)]
end Go.Proofs.YtnjdpibgfbbkcabGreatDoor
/-
  The reference's Taker: what Number and Text take.
-/
namespace Go.Proofs.YtnjdpibgfbbkcabGreatDoor
open Go.RowKit Go.PlainAid

/-- what Number takes: the number, where it is behind it, and whether something can't be -/
def tN (s : ByteArray) (n k : Nat) (bad : Bool) : Int × Nat × Bool := if rnBad s n k bad = true then (0, n, true) else ((getR s n k).1, n + k, false)
/-- .. and Text -/
def tT (s : ByteArray) (n : Nat) (bad : Bool) : ByteArray × Nat × Bool := if rtBad s n bad = true then (⟨#[]⟩, n, true) else ((gtR s n).1, rtAt s n, false)

/-- a Taker in block b -/
def Tk (b : Nat) (s : ByteArray) (n : Nat) (bad : Bool) (w : World) : Prop := w.heap[b]? = some (.cells #[.string s, .int .i64 n, .bool bad] 52 (0, 0))
theorem Tk.lt {b : Nat} {s : ByteArray} {n : Nat} {bad : Bool} {w : World} (h : Tk b s n bad w) : b < w.heap.size := (Array.getElem?_eq_some_iff.1 h).1
theorem Tk.cells {b : Nat} {s : ByteArray} {n : Nat} {bad : Bool} {w : World} (h : Tk b s n bad w) : w.cell? ⟨b, 0, none⟩ = some (.string s) ∧ w.cell? ⟨b, 1, none⟩ = some (.int .i64 n) ∧ w.cell? ⟨b, 2, none⟩ = some (.bool bad) ∧ w.frozen? ⟨b, 1, none⟩ = false ∧ w.frozen? ⟨b, 2, none⟩ = false := by
  unfold Tk at h
  refine ⟨?_, ?_, ?_, ?_, ?_⟩ <;> simp [World.cell?, World.frozen?, h]
theorem Tk.set1 {b : Nat} {s : ByteArray} {n : Nat} {bad : Bool} {w : World} (h : Tk b s n bad w) (m : Nat) : Tk b s m bad (w.setCell ⟨b, 1, none⟩ (.int .i64 m)) := by
  unfold Tk at *; simp [World.setCell, Array.getElem?_modify, h]
theorem Tk.set2 {b : Nat} {s : ByteArray} {n : Nat} {bad : Bool} {w : World} (h : Tk b s n bad w) (c : Bool) : Tk b s n c (w.setCell ⟨b, 2, none⟩ (.bool c)) := by
  unfold Tk at *; simp [World.setCell, Array.getElem?_modify, h]
theorem Tk.below {b : Nat} {s : ByteArray} {n : Nat} {bad : Bool} {w w' : World} (h : Tk b s n bad w) (hb : Below w.heap.size w w') : Tk b s n bad w' := by
  have := h.lt; unfold Tk at *; rw [hb.block b this]; exact h
theorem Tk.other {b c : Nat} {s : ByteArray} {n : Nat} {bad : Bool} {w : World} (h : Tk b s n bad w) (hne : b ≠ c) (o : Nat) (v : Value) : Tk b s n bad (w.setCell ⟨c, o, none⟩ v) := by
  unfold Tk at *; rw [Below.heap_setCell _ _ _ _ hne]; exact h

set_option maxHeartbeats 2000000 in
theorem tnumber_any (b : Nat) (s : ByteArray) (n k : Nat) (bad : Bool) (w : World) (hs : s.size ≤ maxLen) (h : Tk b s n bad w) :
    Calls Tryz.prog 23 #[.pointer (some ⟨b, 0, none⟩), .int .i64 k] w fun e w' => e = .returned (.int .i64 (tN s n k bad).1) ∧ Tk b s (tN s n k bad).2.1 (tN s n k bad).2.2 w' ∧ Kx b b w w' := by
  have hs' := hide hs
  unfold maxLen at hs
  have HR := hide h
  obtain ⟨h0, h1, h2, h3, h4⟩ := h.cells
  clear h
  have HA : Hid (∀ W, Calls Tryz.prog 44 #[.string s, .int .i64 n, .int .i64 k] W fun e w' => e = .returned (.tuple #[.int .i64 (getR s n k).1, .int .i64 (getR s n k).2]) ∧ w' = W) := fun W => getOf_any s n k W hs'.out
  generalize hT : tN s n k bad = T
  unfold tN rnBad at hT
  have hle : (getR s n k).2 = 0 → n + k ≤ s.size := getR_ok
  revert HA hT hle
  generalize getR s n k = g
  obtain ⟨v, e⟩ := g
  simp only
  intro HA hT hle
  by_cases he : e = 0
  · have hnk := hle he
    subst he
    cases bad with
    | true =>
      have HT : Hid (T = (0, n, true)) := by show _ = _; rw [← hT]; rfl
      clear hT hle
      go_enter Tryz.func23, Tryz.ntmps23
      go_wp2_with fail
      go_quiet ((go_at_call 44; exact Calls.quiet_of_same (HA.out _)))
      go_wp2
      go_ret
      exact ⟨by rw [HT.out]; rfl, by rw [HT.out]; exact HR.out.set2 true, (Kx.of_drew b b w _).trans (Kx.set _ _ _ _ _)⟩
    | false =>
      have HT : Hid (T = (v, n + k, false)) := by show _ = _; rw [← hT]; rfl
      clear hT hle
      go_enter Tryz.func23, Tryz.ntmps23
      go_wp2_with fail
      go_quiet ((go_at_call 44; exact Calls.quiet_of_same (HA.out _)))
      go_wp2
      go_ret
      exact ⟨by rw [HT.out]; rfl, by rw [HT.out]; exact HR.out.set1 (n + k), (Kx.of_drew b b w _).trans (Kx.set _ _ _ _ _)⟩
  · have he1 : (e == 0) = false := by simp [he]
    have he2 : (e != 0) = true := by simp [he]
    have HT : Hid (T = (0, n, true)) := by show _ = _; rw [← hT, he1]; cases bad <;> rfl
    clear hT hle he he1
    cases bad with
    | true =>
      go_enter Tryz.func23, Tryz.ntmps23
      go_wp2_with fail
      go_quiet ((go_at_call 44; exact Calls.quiet_of_same (HA.out _)))
      go_wp2
      go_ret
      exact ⟨by rw [HT.out]; rfl, by rw [HT.out]; exact HR.out.set2 true, (Kx.of_drew b b w _).trans (Kx.set _ _ _ _ _)⟩
    | false =>
      go_enter Tryz.func23, Tryz.ntmps23
      go_wp2_with fail
      go_quiet ((go_at_call 44; exact Calls.quiet_of_same (HA.out _)))
      go_wp2
      go_ret
      exact ⟨by rw [HT.out]; rfl, by rw [HT.out]; exact HR.out.set2 true, (Kx.of_drew b b w _).trans (Kx.set _ _ _ _ _)⟩

set_option maxHeartbeats 2000000 in
theorem ttext_any (b : Nat) (s : ByteArray) (n : Nat) (bad : Bool) (w : World) (hs : s.size ≤ maxLen) (hn : n ≤ s.size) (h : Tk b s n bad w) :
    Calls Tryz.prog 22 #[.pointer (some ⟨b, 0, none⟩)] w fun e w' => e = .returned (.string (tT s n bad).1) ∧ Tk b s (tT s n bad).2.1 (tT s n bad).2.2 w' ∧ Kx b b w w' := by
  have hs' := hide hs
  unfold maxLen at hs
  have HR := hide h
  obtain ⟨h0, h1, h2, h3, h4⟩ := h.cells
  clear h
  have HA : Hid (∀ W, Calls Tryz.prog 43 #[.string s, .int .i64 n] W fun e w' => e = .returned (.tuple #[.string (gtR s n).1, .int .i64 (gtR s n).2.1, .int .i64 (gtR s n).2.2]) ∧ w' = W) := fun W => getTextOf_any s n W hs'.out
  generalize hT : tT s n bad = T
  unfold tT rtBad rtAt at hT
  have hle := gtR_le s n hn
  revert HA hT hle
  generalize gtR s n = g
  obtain ⟨v, u, e⟩ := g
  simp only
  intro HA hT hle
  obtain ⟨U, rfl⟩ := Int.eq_ofNat_of_zero_le hle.1
  by_cases he : e = 0
  · subst he
    cases bad with
    | true =>
      have HT : Hid (T = (⟨#[]⟩, n, true)) := by show _ = _; rw [← hT]; rfl
      clear hT
      go_enter Tryz.func22, Tryz.ntmps22
      go_wp2_with fail
      go_quiet ((go_at_call 43; exact Calls.quiet_of_same (HA.out _)))
      go_wp2
      go_ret
      exact ⟨by rw [HT.out]; rfl, by rw [HT.out]; exact HR.out.set2 true, (Kx.of_drew b b w _).trans (Kx.set _ _ _ _ _)⟩
    | false =>
      have HT : Hid (T = (v, n + U, false)) := by show _ = _; rw [← hT]; rfl
      clear hT
      go_enter Tryz.func22, Tryz.ntmps22
      go_wp2_with fail
      go_quiet ((go_at_call 43; exact Calls.quiet_of_same (HA.out _)))
      go_wp2
      go_ret
      exact ⟨by rw [HT.out]; rfl, by rw [HT.out]; exact HR.out.set1 (n + U), (Kx.of_drew b b w _).trans (Kx.set _ _ _ _ _)⟩
  · have he1 : (e == 0) = false := by simp [he]
    have he2 : (e != 0) = true := by simp [he]
    have HT : Hid (T = (⟨#[]⟩, n, true)) := by show _ = _; rw [← hT, he1]; cases bad <;> rfl
    clear hT he he1
    cases bad with
    | true =>
      go_enter Tryz.func22, Tryz.ntmps22
      go_wp2_with fail
      go_quiet ((go_at_call 43; exact Calls.quiet_of_same (HA.out _)))
      go_wp2
      go_ret
      exact ⟨by rw [HT.out]; rfl, by rw [HT.out]; exact HR.out.set2 true, (Kx.of_drew b b w _).trans (Kx.set _ _ _ _ _)⟩
    | false =>
      go_enter Tryz.func22, Tryz.ntmps22
      go_wp2_with fail
      go_quiet ((go_at_call 43; exact Calls.quiet_of_same (HA.out _)))
      go_wp2
      go_ret
      exact ⟨by rw [HT.out]; rfl, by rw [HT.out]; exact HR.out.set2 true, (Kx.of_drew b b w _).trans (Kx.set _ _ _ _ _)⟩
end Go.Proofs.YtnjdpibgfbbkcabGreatDoor
/-
  What the reference's PacketOf reads, kind by kind: plain facts.
-/
namespace Go.Proofs.YtnjdpibgfbbkcabGreatDoor
open Go.RowKit Go.PlainAid

theorem tN_back {s x y : ByteArray} {v : Int} {k n : Nat} (hs : s = x ++ numS v k ++ y) (hn : n = x.size) (hk : 1 ≤ k ∧ k ≤ 4) (hv : numE v k = 0) : tN s n k false = (v, n + k, false) := by
  obtain ⟨h1, h2, h3⟩ := rn_back hs hn hk hv false
  unfold tN
  rw [if_neg (by rw [h3]; decide), h1]
theorem tT_back {s x y t : ByteArray} {n : Nat} (hs : s = x ++ txtS t ++ y) (hn : n = x.size) (ht : t.size ≤ 65535) : tT s n false = (t, n + (2 + t.size), false) := by
  obtain ⟨h1, h2, h3⟩ := rt_back hs hn ht false
  unfold tT
  rw [if_neg (by rw [h3]; decide), h1, h2]
theorem tN_forth {s : ByteArray} {n k : Nat} {bad : Bool} (hk : k = 1 ∨ k = 2) (h : (tN s n k bad).2.2 = false) : bad = false ∧ (tN s n k bad).2.1 = n + k ∧ n + k ≤ s.size ∧ 0 ≤ (tN s n k bad).1 ∧ (tN s n k bad).1 < 256 ^ k ∧ pre s (n + k) = pre s n ++ numS (tN s n k bad).1 k := by
  unfold tN at *
  split at h
  · simp at h
  · rename_i hb
    have hb' : rnBad s n k bad = false := by simpa using hb
    rw [if_neg hb]
    obtain ⟨h1, h2, h3, h4⟩ := rn_forth hk hb'
    have hlt := beN_lt s n k
    have hg : (getR s n k).1 = (beN s n k : Int) := by
      unfold getR
      rw [if_neg (by omega), if_neg (by omega), if_neg (by omega)]
      simp
    refine ⟨h1, rfl, h3, by simp only; omega, ?_, by rw [← h4]; exact h2⟩
    simp only
    rw [hg]
    rcases hk with rfl | rfl
    · simp only [Int.reducePow]; simp only [Nat.reducePow] at hlt; omega
    · simp only [Int.reducePow]; simp only [Nat.reducePow] at hlt; omega
theorem tT_forth {s : ByteArray} {n : Nat} {bad : Bool} (h : (tT s n bad).2.2 = false) : bad = false ∧ (tT s n bad).2.1 = n + (2 + (tT s n bad).1.size) ∧ (tT s n bad).2.1 ≤ s.size ∧ (tT s n bad).1.size ≤ 65535 := by
  unfold tT at *
  split at h
  · simp at h
  · rename_i hb
    have hb' : rtBad s n bad = false := by simpa using hb
    rw [if_neg hb]
    obtain ⟨h1, h2, h3⟩ := rt_forth hb'
    have hlt := beN_lt s n 2
    have hz : (gtR s n).1.size ≤ 65535 := by
      unfold gtR
      split
      · exact Nat.zero_le _
      · split
        · exact Nat.zero_le _
        · split
          · exact Nat.zero_le _
          · simp only [ByteArray.size_extract, Int.toNat_natCast]
            simp only [Nat.reducePow] at hlt
            omega
    have hm := rt_moves hb'
    refine ⟨h1, ?_, h3, hz⟩
    have e := congrArg ByteArray.size h2
    rw [ByteArray.size_append, txtS_len hz, pre, pre, ByteArray.size_extract, ByteArray.size_extract] at e
    simp only
    omega
theorem tN_le {s : ByteArray} {n k : Nat} {bad : Bool} (hk : k = 1 ∨ k = 2) (hn : n ≤ s.size) : (tN s n k bad).2.1 ≤ s.size := by
  cases h : (tN s n k bad).2.2 with
  | false => have := tN_forth hk h; omega
  | true =>
    unfold tN at *
    split
    · exact hn
    · rename_i hb; rw [if_neg hb] at h; simp at h
theorem tT_le {s : ByteArray} {n : Nat} {bad : Bool} (hn : n ≤ s.size) : (tT s n bad).2.1 ≤ s.size := by
  cases h : (tT s n bad).2.2 with
  | false => have := tT_forth h; omega
  | true =>
    unfold tT at *
    split
    · exact hn
    · rename_i hb; rw [if_neg hb] at h; simp at h

/-- asks while there are bytes, all of them -/
def xAsks (s : ByteArray) (kind : Int) : Nat → Nat → Bool → List (ByteArray × Int) → List (ByteArray × Int) × Nat × Bool
  | 0, n, bad, l => (l, n, bad)
  | f + 1, n, bad, l => if bad = false ∧ n < s.size then (if kind = 8 then xAsks s kind f (tN s (tT s n bad).2.1 1 (tT s n bad).2.2).2.1 (tN s (tT s n bad).2.1 1 (tT s n bad).2.2).2.2 (l ++ [((tT s n bad).1, (tN s (tT s n bad).2.1 1 (tT s n bad).2.2).1)]) else xAsks s kind f (tT s n bad).2.1 (tT s n bad).2.2 (l ++ [((tT s n bad).1, 0)])) else (l, n, bad)
def xCodes (s : ByteArray) : Nat → Nat → Bool → List Int → List Int × Nat × Bool
  | 0, n, bad, l => (l, n, bad)
  | f + 1, n, bad, l => if bad = false ∧ n < s.size then xCodes s f (tN s n 1 bad).2.1 (tN s n 1 bad).2.2 (l ++ [(tN s n 1 bad).1]) else (l, n, bad)

theorem xAsks_bad {s : ByteArray} {kind : Int} {f n : Nat} {bad : Bool} {l : List (ByteArray × Int)} (h : (xAsks s kind f n bad l).2.2 = false) : bad = false := by
  cases bad with
  | false => rfl
  | true =>
    cases f with
    | zero => rw [xAsks] at h; simp at h
    | succ f => rw [xAsks, if_neg (by simp)] at h; simp at h
theorem xCodes_bad {s : ByteArray} {f n : Nat} {bad : Bool} {l : List Int} (h : (xCodes s f n bad l).2.2 = false) : bad = false := by
  cases bad with
  | false => rfl
  | true =>
    cases f with
    | zero => rw [xCodes] at h; simp at h
    | succ f => rw [xCodes, if_neg (by simp)] at h; simp at h

def okAsk (kind : Int) (a : ByteArray × Int) : Prop := a.1.size ≤ 65535 ∧ (0 ≤ a.2 ∧ a.2 ≤ 255) ∧ (kind ≠ 8 → a.2 = 0)

theorem xAsks_fit {s : ByteArray} {kind : Int} : ∀ (f n : Nat) (bad : Bool) (l : List (ByteArray × Int)), (xAsks s kind f n bad l).2.2 = false → (∀ a ∈ l, okAsk kind a) → bad = false ∧ ∀ a ∈ (xAsks s kind f n bad l).1, okAsk kind a := by
  intro f
  induction f with
  | zero => intro n bad l h hl; exact ⟨h, hl⟩
  | succ f ih =>
    intro n bad l h hl
    rw [xAsks] at h ⊢
    split at h
    · rename_i hc
      rw [if_pos hc]
      split at h
      · rename_i h8
        rw [if_pos h8]
        have e1 : ∀ l', (∀ a ∈ l', okAsk kind a) → (tN s (tT s n bad).2.1 1 (tT s n bad).2.2).2.2 = false → ∀ a ∈ l' ++ [((tT s n bad).1, (tN s (tT s n bad).2.1 1 (tT s n bad).2.2).1)], okAsk kind a := by
          intro l' hl' hb a ha
          have t1 := tN_forth (.inl rfl) hb
          have t2 := tT_forth t1.1
          rcases List.mem_append.1 ha with ha | ha
          · exact hl' a ha
          · simp only [List.mem_singleton] at ha
            subst ha
            exact ⟨t2.2.2.2, ⟨t1.2.2.2.1, by have := t1.2.2.2.2.1; simp only [Int.reducePow] at this; simp only; omega⟩, fun h => absurd h8 h⟩
        cases hb : (tN s (tT s n bad).2.1 1 (tT s n bad).2.2).2.2 with
        | false =>
          have := ih _ _ _ h (e1 l hl hb)
          exact ⟨hc.1, by rw [hb] at this; exact this.2⟩
        | true =>
          rw [hb] at h
          exfalso
          cases f with
          | zero => rw [xAsks] at h; simp at h
          | succ f => rw [xAsks, if_neg (by simp)] at h; simp at h
      · rename_i h8
        rw [if_neg h8]
        have e1 : ∀ l', (∀ a ∈ l', okAsk kind a) → (tT s n bad).2.2 = false → ∀ a ∈ l' ++ [((tT s n bad).1, (0 : Int))], okAsk kind a := by
          intro l' hl' hb a ha
          have t2 := tT_forth hb
          rcases List.mem_append.1 ha with ha | ha
          · exact hl' a ha
          · simp only [List.mem_singleton] at ha
            subst ha
            exact ⟨t2.2.2.2, ⟨by simp, by simp⟩, fun _ => rfl⟩
        cases hb : (tT s n bad).2.2 with
        | false =>
          have := ih _ _ _ h (e1 l hl hb)
          exact ⟨hc.1, by rw [hb] at this; exact this.2⟩
        | true =>
          rw [hb] at h
          exfalso
          cases f with
          | zero => rw [xAsks] at h; simp at h
          | succ f => rw [xAsks, if_neg (by simp)] at h; simp at h
    · rename_i hc
      rw [if_neg hc]
      exact ⟨h, hl⟩
theorem xCodes_fit {s : ByteArray} : ∀ (f n : Nat) (bad : Bool) (l : List Int), (xCodes s f n bad l).2.2 = false → (∀ a ∈ l, 0 ≤ a ∧ a ≤ 255) → bad = false ∧ ∀ a ∈ (xCodes s f n bad l).1, 0 ≤ a ∧ a ≤ 255 := by
  intro f
  induction f with
  | zero => intro n bad l h hl; exact ⟨h, hl⟩
  | succ f ih =>
    intro n bad l h hl
    rw [xCodes] at h ⊢
    split at h
    · rename_i hc
      rw [if_pos hc]
      have e1 : ∀ l', (∀ a ∈ l', 0 ≤ a ∧ a ≤ 255) → (tN s n 1 bad).2.2 = false → ∀ a ∈ l' ++ [(tN s n 1 bad).1], 0 ≤ a ∧ a ≤ 255 := by
        intro l' hl' hb a ha
        have t1 := tN_forth (.inl rfl) hb
        rcases List.mem_append.1 ha with ha | ha
        · exact hl' a ha
        · simp only [List.mem_singleton] at ha
          subst ha
          exact ⟨t1.2.2.2.1, by have := t1.2.2.2.2.1; simp only [Int.reducePow] at this; omega⟩
      cases hb : (tN s n 1 bad).2.2 with
      | false =>
        have := ih _ _ _ h (e1 l hl hb)
        exact ⟨hc.1, by rw [hb] at this; exact this.2⟩
      | true =>
        rw [hb] at h
        exfalso
        cases f with
        | zero => rw [xCodes] at h; simp at h
        | succ f => rw [xCodes, if_neg (by simp)] at h; simp at h
    · rename_i hc
      rw [if_neg hc]
      exact ⟨h, hl⟩

theorem xAsks_back {s : ByteArray} {kind : Int} : ∀ (l acc : List (ByteArray × Int)) (X : ByteArray) (n f : Nat), s = X ++ asksS kind l → n = X.size → (∀ a ∈ l, okAsk kind a) → l.length < f →
    xAsks s kind f n false acc = (acc ++ l, s.size, false) := by
  intro l
  induction l with
  | nil =>
    intro acc X n f hs hn _ hf
    have hsz : n = s.size := by rw [hs, hn, asksS, ba_append_nil]
    cases f with
    | zero => simp at hf
    | succ f => rw [xAsks, if_neg (by omega), hsz]; simp
  | cons a l ih =>
    intro acc X n f hs hn ha hf
    obtain ⟨h1, h2, h3⟩ := ha a (by simp)
    have z1 := txtS_len (t := a.1) (by omega)
    have hs1 : s = X ++ askS kind a ++ asksS kind l := by rw [hs, asksS]; simp only [ba_assoc]
    obtain ⟨f, rfl⟩ : ∃ g, f = g + 1 := ⟨f - 1, by simp at hf; omega⟩
    by_cases h8 : kind = 8
    · have z2 := numS_size1 h2.1 (by omega)
      have e : askS kind a = txtS a.1 ++ numS a.2 1 := by unfold askS; rw [if_pos h8, numsS_one]
      rw [e] at hs1
      have r1 := tT_back (s := s) (x := X) (t := a.1) (y := numS a.2 1 ++ asksS kind l) (n := n) (by rw [hs1]; simp only [ba_assoc]) hn (by omega)
      have r2 := tN_back (s := s) (x := X ++ txtS a.1) (v := a.2) (k := 1) (y := asksS kind l) (n := n + (2 + a.1.size)) (by rw [hs1]; simp only [ba_assoc]; rfl) (by rw [ByteArray.size_append]; omega) (by omega) (numE_in (.inl rfl) (by omega) (by omega))
      have hlt : n < s.size := by rw [hs1]; simp only [ByteArray.size_append]; omega
      rw [xAsks, if_pos ⟨rfl, hlt⟩, if_pos h8, r1]
      simp only
      rw [r2]
      simp only
      rw [ih (acc ++ [(a.1, a.2)]) _ _ f hs1 (by simp only [ByteArray.size_append]; omega) (fun x hx => ha x (by simp [hx])) (by simp at hf; omega)]
      simp
    · have h3' := h3 h8
      have e : askS kind a = txtS a.1 := by unfold askS; rw [if_neg h8, ba_append_nil]
      rw [e] at hs1
      have r1 := tT_back (s := s) (x := X) (t := a.1) (y := asksS kind l) (n := n) hs1 hn (by omega)
      have hlt : n < s.size := by rw [hs1]; simp only [ByteArray.size_append]; omega
      rw [xAsks, if_pos ⟨rfl, hlt⟩, if_neg h8, r1]
      simp only
      rw [ih (acc ++ [(a.1, 0)]) _ _ f hs1 (by simp only [ByteArray.size_append]; omega) (fun x hx => ha x (by simp [hx])) (by simp at hf; omega)]
      rw [← h3']
      simp
theorem xCodes_back {s : ByteArray} : ∀ (l acc : List Int) (X : ByteArray) (n f : Nat), s = X ++ numsS 1 l → n = X.size → (∀ a ∈ l, 0 ≤ a ∧ a ≤ 255) → l.length < f →
    xCodes s f n false acc = (acc ++ l, s.size, false) := by
  intro l
  induction l with
  | nil =>
    intro acc X n f hs hn _ hf
    have hsz : n = s.size := by rw [hs, hn, numsS, ba_append_nil]
    cases f with
    | zero => simp at hf
    | succ f => rw [xCodes, if_neg (by omega), hsz]; simp
  | cons a l ih =>
    intro acc X n f hs hn ha hf
    obtain ⟨h1, h2⟩ := ha a (by simp)
    have z2 := numS_size1 h1 (by omega)
    have hs1 : s = X ++ numS a 1 ++ numsS 1 l := by rw [hs, numsS]; simp only [ba_assoc]
    obtain ⟨f, rfl⟩ : ∃ g, f = g + 1 := ⟨f - 1, by simp at hf; omega⟩
    have r2 := tN_back (s := s) (x := X) (v := a) (k := 1) (y := numsS 1 l) (n := n) (by rw [hs1]; rfl) hn (by omega) (numE_in (.inl rfl) (by omega) (by omega))
    have hlt : n < s.size := by rw [hs1]; simp only [ByteArray.size_append]; omega
    rw [xCodes, if_pos ⟨rfl, hlt⟩, r2]
    simp only
    rw [ih (acc ++ [a]) _ _ f hs1 (by rw [ByteArray.size_append]; omega) (fun x hx => ha x (by simp [hx])) (by simp at hf; omega)]
    simp

theorem xAsks_size {s : ByteArray} {kind : Int} : ∀ (f n : Nat) (bad : Bool) (l : List (ByteArray × Int)), n ≤ s.size → (xAsks s kind f n bad l).2.2 = false → (asksS kind (xAsks s kind f n bad l).1).size + n ≤ (asksS kind l).size + s.size := by
  intro f
  induction f with
  | zero => intro n bad l hn h; show (asksS kind l).size + n ≤ _; omega
  | succ f ih =>
    intro n bad l hn h
    rw [xAsks] at h ⊢
    split at h
    · rename_i hc
      rw [if_pos hc]
      split at h
      · rename_i h8
        rw [if_pos h8]
        have t1 := tN_forth (.inl rfl) (xAsks_bad h)
        have t2 := tT_forth t1.1
        have := ih _ _ _ (by omega) h
        rw [asksS_append, ByteArray.size_append] at this
        have z1 := txtS_len t2.2.2.2
        have z2 := numS_size1 t1.2.2.2.1 (by have := t1.2.2.2.2.1; simpa using this)
        have e : (asksS kind [((tT s n bad).1, (tN s (tT s n bad).2.1 1 (tT s n bad).2.2).1)]).size = 2 + (tT s n bad).1.size + 1 := by
          rw [asksS, asksS, ba_append_nil, askS, if_pos h8, numsS_one, ByteArray.size_append]
          simp only
          omega
        omega
      · rename_i h8
        rw [if_neg h8]
        have t2 := tT_forth (xAsks_bad h)
        have := ih _ _ _ (by omega) h
        rw [asksS_append, ByteArray.size_append] at this
        have z1 := txtS_len t2.2.2.2
        have e : (asksS kind [((tT s n bad).1, (0 : Int))]).size = 2 + (tT s n bad).1.size := by
          rw [asksS, asksS, ba_append_nil, askS, if_neg h8, ba_append_nil]
          exact z1
        omega
    · rename_i hc
      rw [if_neg hc]
      show (asksS kind l).size + n ≤ _; omega
theorem xCodes_size {s : ByteArray} : ∀ (f n : Nat) (bad : Bool) (l : List Int), n ≤ s.size → (xCodes s f n bad l).2.2 = false → (numsS 1 (xCodes s f n bad l).1).size + n ≤ (numsS 1 l).size + s.size := by
  intro f
  induction f with
  | zero => intro n bad l hn h; show (numsS 1 l).size + n ≤ _; omega
  | succ f ih =>
    intro n bad l hn h
    rw [xCodes] at h ⊢
    split at h
    · rename_i hc
      rw [if_pos hc]
      have t1 := tN_forth (.inl rfl) (xCodes_bad h)
      have := ih _ _ _ (by omega) h
      rw [numsS_append, ByteArray.size_append, numsS_one] at this
      have z2 := numS_size1 t1.2.2.2.1 (by have := t1.2.2.2.2.1; simpa using this)
      omega
    · rename_i hc
      rw [if_neg hc]
      show (numsS 1 l).size + n ≤ _; omega

/-- a packet out of bytes, and whether they can't be one's -/
structure Told (s : ByteArray) (p : Pk) (B : Bool) : Prop where
  fit : B = false → FitP p
  back : ∀ q, FitP q → encP q = s → B = false ∧ q = p
  size : B = false → p.payload.size ≤ s.size ∧ (asksS p.kind p.asks).size ≤ s.size ∧ (numsS 1 p.codes).size ≤ s.size

theorem told_start {q : Pk} {s : ByteArray} (h : FitP q) (hl : s.size ≤ 268435455) (hs : encP q = s) : lenOk s = true ∧ (bt s 0 = firstN q) ∧ bt s 0 / 16 = q.kind ∧ ∃ X, s = X ++ bodyS q ∧ X.size = 1 + (glR s 1).2.1.toNat := by
  have hb : (bodyS q).size ≤ 268435455 := by
    have : (encP q).size = (numsS 1 [firstN q] ++ longS (bodyS q).size).size + (bodyS q).size := by unfold encP; rw [ByteArray.size_append]
    rw [hs] at this; omega
  obtain ⟨u, h1, h2, h3, h4, h5⟩ := len_fit h hb
  have hf := first_ok h.kind h.qos
  have h0 := bt_nonneg s 0
  rw [hs] at h1 h2 h3 h5
  have e : bt s 0 = firstN q := by omega
  exact ⟨h1, e, by rw [e]; exact hf.2.2, _, h3, by rw [h2]; omega⟩

theorem rn_range {s : ByteArray} {n k : Nat} {bad : Bool} (hk : k = 1 ∨ k = 2) (h : rnBad s n k bad = false) : 0 ≤ (getR s n k).1 ∧ (getR s n k).1 < 256 ^ k := by
  have e : tN s n k bad = ((getR s n k).1, n + k, false) := by unfold tN; rw [if_neg (by rw [h]; decide)]
  have := tN_forth hk (show (tN s n k bad).2.2 = false by rw [e])
  rw [e] at this
  exact ⟨this.2.2.2.1, this.2.2.2.2.1⟩
theorem rt_range {s : ByteArray} {n : Nat} {bad : Bool} (h : rtBad s n bad = false) : (gtR s n).1.size ≤ 65535 := by
  have e : tT s n bad = ((gtR s n).1, rtAt s n, false) := by unfold tT; rw [if_neg (by rw [h]; decide)]
  have := tT_forth (show (tT s n bad).2.2 = false by rw [e])
  rw [e] at this
  exact this.2.2.2
theorem asks_forthF {s : ByteArray} {kind : Int} : ∀ (f n : Nat) (bad : Bool) (l L : List (ByteArray × Int)), rAsks s kind f n bad l = (L, s.size, false) →
    bad = false ∧ ∃ l', s = pre s n ++ asksS kind l' ∧ ∀ a ∈ l', okAsk kind a := by
  intro f
  induction f with
  | zero =>
    intro n bad l L h
    simp only [rAsks, Prod.mk.injEq] at h
    obtain ⟨rfl, rfl, rfl⟩ := h
    exact ⟨rfl, [], by rw [asksS, ba_append_nil, pre_all], by simp⟩
  | succ f ih =>
    intro n bad l L h
    rw [rAsks] at h
    split at h
    · rename_i hc
      obtain ⟨h1, l', h3, h4⟩ := ih _ _ _ _ h
      refine ⟨hc.1, a1 s kind n :: l', ?_, ?_⟩
      · rw [asksS, ← ba_assoc]
        rw [hc.1] at h1
        have e : pre s n ++ askS kind (a1 s kind n) = pre s (a1At s kind n) := by
          unfold a1Bad at h1
          unfold askS a1 a1At
          by_cases h8 : kind = 8
          · rw [if_pos h8] at h1 ⊢
            simp only [if_pos h8]
            obtain ⟨b1, p1, _, _⟩ := rn_forth (.inl rfl) h1
            obtain ⟨_, p2, _⟩ := rt_forth b1
            rw [p1, p2, numsS_one, ba_assoc]; rfl
          · rw [if_neg h8] at h1 ⊢
            simp only [if_neg h8]
            obtain ⟨_, p2, _⟩ := rt_forth h1
            rw [p2, ba_append_nil]
        rw [e]; exact h3
      · intro a ha
        rcases List.mem_cons.1 ha with ha | ha
        · subst ha
          rw [hc.1] at h1
          unfold a1Bad at h1
          unfold okAsk a1
          by_cases h8 : kind = 8
          · rw [if_pos h8] at h1
            simp only [if_pos h8]
            have r1 := rn_range (.inl rfl) h1
            obtain ⟨b1, _, _, _⟩ := rn_forth (.inl rfl) h1
            exact ⟨rt_range b1, ⟨r1.1, by have := r1.2; simp only [Int.reducePow] at this; omega⟩, fun h => absurd h8 h⟩
          · rw [if_neg h8] at h1
            simp only [if_neg h8]
            exact ⟨rt_range h1, ⟨by simp, by simp⟩, by simp⟩
        · exact h4 a ha
    · simp only [Prod.mk.injEq] at h
      obtain ⟨rfl, rfl, rfl⟩ := h
      exact ⟨rfl, [], by rw [asksS, ba_append_nil, pre_all], by simp⟩
theorem codes_forthF {s : ByteArray} : ∀ (f n : Nat) (bad : Bool) (l L : List Int), rCodes s f n bad l = (L, s.size, false) →
    bad = false ∧ ∃ l', s = pre s n ++ numsS 1 l' ∧ ∀ a ∈ l', 0 ≤ a ∧ a ≤ 255 := by
  intro f
  induction f with
  | zero =>
    intro n bad l L h
    simp only [rCodes, Prod.mk.injEq] at h
    obtain ⟨rfl, rfl, rfl⟩ := h
    exact ⟨rfl, [], by rw [numsS, ba_append_nil, pre_all], by simp⟩
  | succ f ih =>
    intro n bad l L h
    rw [rCodes] at h
    split at h
    · rename_i hc
      obtain ⟨h1, l', h3, h4⟩ := ih _ _ _ _ h
      obtain ⟨_, p1, _, _⟩ := rn_forth (.inl rfl) h1
      have r1 := rn_range (.inl rfl) h1
      refine ⟨hc.1, (getR s n (1 : Nat)).1 :: l', ?_, ?_⟩
      · rw [numsS, ← ba_assoc]
        rw [p1] at h3
        exact h3
      · intro a ha
        rcases List.mem_cons.1 ha with ha | ha
        · subst ha
          exact ⟨r1.1, by have := r1.2; simp only [Int.reducePow] at this; omega⟩
        · exact h4 a ha
    · simp only [Prod.mk.injEq] at h
      obtain ⟨rfl, rfl, rfl⟩ := h
      exact ⟨rfl, [], by rw [numsS, ba_append_nil, pre_all], by simp⟩

/-- a body that was read is a packet's that fits -/
theorem body_forthF {s : ByteArray} {n b : Nat} {bad : Bool} (hk : kindB (kPk b).kind = true) (h1 : (bodyR s n bad b).2.2 = false) (h2 : (bodyR s n bad b).2.1 = s.size) : ∃ q, FitP q ∧ firstN q = firstN (bodyR s n bad b).1 ∧ s = pre s n ++ bodyS q := by
  unfold bodyR at *
  by_cases k1 : (kPk b).kind = 1
  · rw [if_pos k1] at *
    simp only at h1 h2 ⊢
    obtain ⟨b4, p5, _⟩ := rt_forth h1
    obtain ⟨b3, p4, _, _⟩ := rn_forth (.inr rfl) b4
    obtain ⟨b3', f3⟩ := rm_forth b3
    obtain ⟨b2, p3, _, _⟩ := rn_forth (.inl rfl) b3'
    have g1 := rt_range h1
    have g2 := rn_range (.inr rfl) b4
    simp only [Int.reducePow] at g2
    simp only [conB2, Bool.or_eq_false_iff, Bool.not_eq_false', beq_iff_eq] at b2
    obtain ⟨b1, p2, _, _⟩ := rn_forth (.inl rfl) b2.1
    simp only [conB1, Bool.or_eq_false_iff, Bool.not_eq_false'] at b1
    obtain ⟨_, p1, _⟩ := rt_forth b1.1
    have eM : (gtR s n).1 = ⟨#[77, 81, 84, 84]⟩ := by
      have hb := b1.2
      cases hd : decide ((gtR s n).1 = ⟨#[77, 81, 84, 84]⟩) with
      | true => exact of_decide_eq_true hd
      | false => rw [txt_no (l := [77, 81, 84, 84]) (of_decide_eq_false hd)] at hb; simp at hb
    have hfin : s = pre s (conN5 s n) := by rw [h2, pre_all]
    refine ⟨conP s n (kPk b), ⟨hk, ?_, fun _ => ⟨g1, g2.1, by show (getR s (conN3 s n) (2 : Nat)).1 ≤ 65535; omega⟩, fun h => by have h' : (kPk b).kind = 2 := h; omega, fun h => by have h' : (kPk b).kind = 3 := h; omega, fun h => absurd (.inl k1) h, fun a ha => (by cases ha), fun a ha => (by cases ha)⟩, rfl, ?_⟩
    · show bareB (if (kPk b).kind = 1 then _ else _) = true
      rw [if_pos k1]; rfl
    · rw [show bodyS (conP s n (kPk b)) = connectS (conP s n (kPk b)) from if_pos k1, connectS, numsS_two, numsS_one]
      simp only [conP]
      rw [flag_forth (by decide) f3]
      conv => lhs; rw [hfin]
      unfold conN5
      rw [p5]
      unfold conN4
      rw [p4]
      unfold conN3
      rw [p3]
      unfold conN2
      rw [p2, p1, eM, b2.2]
      simp only [ba_assoc]
      rfl
  · rw [if_neg k1] at *
    by_cases k2 : (kPk b).kind = 2
    · rw [if_pos k2] at *
      simp only at h1 h2 ⊢
      obtain ⟨b2, p2, _, _⟩ := rn_forth (.inl rfl) h1
      obtain ⟨b1, f1⟩ := rm_forth b2
      obtain ⟨_, p1, _, _⟩ := rn_forth (.inl rfl) b1
      have g1 := rn_range (.inl rfl) h1
      simp only [Int.reducePow] at g1
      refine ⟨{ kPk b with session := (getR s n (1 : Nat)).1 == 1, code := (getR s (rnAt s n 1) (1 : Nat)).1 }, ⟨hk, ?_, fun h => by have h' : (kPk b).kind = 1 := h; omega, fun _ => ⟨g1.1, by show (getR s (rnAt s n 1) (1 : Nat)).1 ≤ 255; omega⟩, fun h => by have h' : (kPk b).kind = 3 := h; omega, fun h => absurd (.inr (.inl k2)) h, fun a ha => (by cases ha), fun a ha => (by cases ha)⟩, rfl, ?_⟩
      · show bareB (if (kPk b).kind = 1 then _ else if (kPk b).kind = 2 then _ else _) = true
        rw [if_neg k1, if_pos k2]; rfl
      · rw [show bodyS { kPk b with session := (getR s n (1 : Nat)).1 == 1, code := (getR s (rnAt s n 1) (1 : Nat)).1 } = numsS 1 [flagN ((getR s n (1 : Nat)).1 == 1) 1, (getR s (rnAt s n 1) (1 : Nat)).1] from (if_neg k1).trans (if_pos k2)]
        rw [flag_forth (by decide) f1, numsS_two]
        have hfin : s = pre s (rnAt s (rnAt s n 1) 1) := by rw [h2, pre_all]
        conv => lhs; rw [hfin]
        rw [p2, p1]
        simp only [ba_assoc]
        rfl
    · rw [if_neg k2] at *
      by_cases k3 : (kPk b).kind = 3
      · rw [if_pos k3] at *
        simp only at h1 ⊢
        unfold pubB at h1
        have hS : bodyS (pubP s n b (kPk b)) = publishS (pubP s n b (kPk b)) := (if_neg k1).trans ((if_neg k2).trans (if_pos k3))
        have hW : bareB (wn (pubP s n b (kPk b))) = true := by
          show bareB (if (kPk b).kind = 1 then _ else if (kPk b).kind = 2 then _ else if (kPk b).kind = 3 then _ else _) = true
          rw [if_neg k1, if_neg k2, if_pos k3]; rfl
        by_cases hb : bitB b 2 = true
        · rw [if_pos hb] at h1
          obtain ⟨b2, p2, z2, a2⟩ := rn_forth (.inr rfl) h1
          obtain ⟨_, p1, _⟩ := rt_forth b2
          have g1 := rt_range b2
          have g2 := rn_range (.inr rfl) h1
          simp only [Int.reducePow] at g2
          have eq : (pubP s n b (kPk b)).qos = 1 := if_pos hb
          have ei : (pubP s n b (kPk b)).id = (getR s (rtAt s n) (2 : Nat)).1 := if_pos hb
          refine ⟨pubP s n b (kPk b), ⟨hk, hW, fun h => by have h' : (kPk b).kind = 1 := h; omega, fun h => by have h' : (kPk b).kind = 2 := h; omega, fun _ => ⟨g1, .inr eq, fun _ => by rw [ei]; omega, fun h => by rw [eq] at h; simp at h⟩, fun h => absurd (.inr (.inr (.inl k3))) h, fun a ha => (by cases ha), fun a ha => (by cases ha)⟩, rfl, ?_⟩
          rw [hS, publishS]
          simp only [pubP]
          simp only [if_pos hb]
          rw [if_pos trivial, numsS_one]
          have : pubN s n b = rnAt s (rtAt s n) 2 := if_pos hb
          rw [this]
          conv => lhs; rw [← pre_all s, pre_ext s (n := rnAt s (rtAt s n) 2) (by omega), p2, p1]
          simp only [ba_assoc]
          rfl
        · rw [if_neg hb] at h1
          obtain ⟨_, p1, z1⟩ := rt_forth h1
          have g1 := rt_range h1
          have eq : (pubP s n b (kPk b)).qos = 0 := if_neg hb
          have ei : (pubP s n b (kPk b)).id = 0 := if_neg hb
          refine ⟨pubP s n b (kPk b), ⟨hk, hW, fun h => by have h' : (kPk b).kind = 1 := h; omega, fun h => by have h' : (kPk b).kind = 2 := h; omega, fun _ => ⟨g1, .inl eq, fun h => by rw [eq] at h; simp at h, fun _ => ei⟩, fun h => absurd (.inr (.inr (.inl k3))) h, fun a ha => (by cases ha), fun a ha => (by cases ha)⟩, rfl, ?_⟩
          rw [hS, publishS]
          simp only [pubP]
          simp only [if_neg hb]
          rw [if_neg (show ¬ (kPk b).qos = 1 by simp [kPk, zeroPk]), ba_append_nil]
          have : pubN s n b = rtAt s n := if_neg hb
          rw [this]
          conv => lhs; rw [← pre_all s, pre_ext s (n := rtAt s n) (by omega), p1]
          simp only [ba_assoc]
      · rw [if_neg k3] at *
        by_cases k4 : (kPk b).kind = 12 ∨ (kPk b).kind = 13 ∨ (kPk b).kind = 14
        · rw [if_pos k4] at *
          simp only at h2
          refine ⟨kPk b, ⟨hk, ?_, fun h => absurd h k1, fun h => absurd h k2, fun h => absurd h k3, fun h => absurd (.inr (.inr (.inr k4))) h, fun a ha => (by cases ha), fun a ha => (by cases ha)⟩, rfl, ?_⟩
          · rw [wn, if_neg k1, if_neg k2, if_neg k3, if_neg (by omega), if_neg (by omega), if_neg (by omega)]; rfl
          · rw [show bodyS (kPk b) = ⟨#[]⟩ from (if_neg k1).trans ((if_neg k2).trans ((if_neg k3).trans (if_pos k4))), ba_append_nil, h2, pre_all]
        · rw [if_neg k4] at *
          unfold widR at *
          by_cases k8 : (kPk b).kind = 8 ∨ (kPk b).kind = 10
          · rw [if_pos k8] at *
            simp only at h1 h2 ⊢
            obtain ⟨b1, l', e2, e3⟩ := asks_forthF _ _ _ _ _ (show rAsks s (kPk b).kind (s.size + 1) (rnAt s n 2) (rnBad s n 2 bad) [] = (_, s.size, false) from Prod.ext rfl (Prod.ext h2 h1))
            obtain ⟨_, p1, _, _⟩ := rn_forth (.inr rfl) b1
            have g1 := rn_range (.inr rfl) b1
            simp only [Int.reducePow] at g1
            refine ⟨{ kPk b with id := (getR s n (2 : Nat)).1, asks := l' }, ⟨hk, ?_, fun h => by have h' : (kPk b).kind = 1 := h; omega, fun h => by have h' : (kPk b).kind = 2 := h; omega, fun h => by have h' : (kPk b).kind = 3 := h; omega, fun _ => ⟨g1.1, by show (getR s n (2 : Nat)).1 ≤ 65535; omega⟩, fun a ha => e3 a ha, fun a ha => (by cases ha)⟩, rfl, ?_⟩
            · show bareB (if (kPk b).kind = 1 then _ else if (kPk b).kind = 2 then _ else if (kPk b).kind = 3 then _ else if (kPk b).kind = 4 ∨ (kPk b).kind = 11 then _ else if (kPk b).kind = 8 ∨ (kPk b).kind = 10 then _ else _) = true
              rw [if_neg k1, if_neg k2, if_neg k3, if_neg (by omega), if_pos k8]; rfl
            · rw [show bodyS { kPk b with id := (getR s n (2 : Nat)).1, asks := l' } = withIdS { kPk b with id := (getR s n (2 : Nat)).1, asks := l' } from (if_neg k1).trans ((if_neg k2).trans ((if_neg k3).trans (if_neg k4))), withIdS]
              simp only
              rw [numsS_one, show (kPk b).codes = [] from rfl, numsS, ba_append_nil, ← ba_assoc]
              rw [p1] at e2
              exact e2
          · rw [if_neg k8] at *
            by_cases k9 : (kPk b).kind = 9
            · rw [if_pos k9] at *
              simp only at h1 h2 ⊢
              obtain ⟨b1, l', e2, e3⟩ := codes_forthF _ _ _ _ _ (show rCodes s (s.size + 1) (rnAt s n 2) (rnBad s n 2 bad) [] = (_, s.size, false) from Prod.ext rfl (Prod.ext h2 h1))
              obtain ⟨_, p1, _, _⟩ := rn_forth (.inr rfl) b1
              have g1 := rn_range (.inr rfl) b1
              simp only [Int.reducePow] at g1
              refine ⟨{ kPk b with id := (getR s n (2 : Nat)).1, codes := l' }, ⟨hk, ?_, fun h => by have h' : (kPk b).kind = 1 := h; omega, fun h => by have h' : (kPk b).kind = 2 := h; omega, fun h => by have h' : (kPk b).kind = 3 := h; omega, fun _ => ⟨g1.1, by show (getR s n (2 : Nat)).1 ≤ 65535; omega⟩, fun a ha => (by cases ha), fun a ha => e3 a ha⟩, rfl, ?_⟩
              · show bareB (if (kPk b).kind = 1 then _ else if (kPk b).kind = 2 then _ else if (kPk b).kind = 3 then _ else if (kPk b).kind = 4 ∨ (kPk b).kind = 11 then _ else if (kPk b).kind = 8 ∨ (kPk b).kind = 10 then _ else if (kPk b).kind = 9 then _ else _) = true
                rw [if_neg k1, if_neg k2, if_neg k3, if_neg (by omega), if_neg k8, if_pos k9]; rfl
              · rw [show bodyS { kPk b with id := (getR s n (2 : Nat)).1, codes := l' } = withIdS { kPk b with id := (getR s n (2 : Nat)).1, codes := l' } from (if_neg k1).trans ((if_neg k2).trans ((if_neg k3).trans (if_neg k4))), withIdS]
                simp only
                rw [numsS_one, show (kPk b).asks = [] from rfl, asksS, ba_append_nil, ← ba_assoc]
                rw [p1] at e2
                exact e2
            · rw [if_neg k9] at *
              simp only at h1 h2 ⊢
              obtain ⟨_, p1, _, _⟩ := rn_forth (.inr rfl) h1
              have g1 := rn_range (.inr rfl) h1
              simp only [Int.reducePow] at g1
              have k411 : (kPk b).kind = 4 ∨ (kPk b).kind = 11 := by simp only [kindB, decide_eq_true_eq] at hk; omega
              refine ⟨{ kPk b with id := (getR s n (2 : Nat)).1 }, ⟨hk, ?_, fun h => by have h' : (kPk b).kind = 1 := h; omega, fun h => by have h' : (kPk b).kind = 2 := h; omega, fun h => by have h' : (kPk b).kind = 3 := h; omega, fun _ => ⟨g1.1, by show (getR s n (2 : Nat)).1 ≤ 65535; omega⟩, fun a ha => (by cases ha), fun a ha => (by cases ha)⟩, rfl, ?_⟩
              · show bareB (if (kPk b).kind = 1 then _ else if (kPk b).kind = 2 then _ else if (kPk b).kind = 3 then _ else if (kPk b).kind = 4 ∨ (kPk b).kind = 11 then _ else _) = true
                rw [if_neg k1, if_neg k2, if_neg k3, if_pos k411]; rfl
              · rw [show bodyS { kPk b with id := (getR s n (2 : Nat)).1 } = withIdS { kPk b with id := (getR s n (2 : Nat)).1 } from (if_neg k1).trans ((if_neg k2).trans ((if_neg k3).trans (if_neg k4))), withIdS]
                simp only
                rw [numsS_one, show (kPk b).asks = [] from rfl, show (kPk b).codes = [] from rfl, asksS, numsS, ba_append_nil, ba_append_nil]
                conv => lhs; rw [← pre_all s, ← h2, p1]
                rfl

/-- bytes that are read are a packet's that fits -/
theorem rd_forth {s : ByteArray} (hr : rdB s = true) : ∃ q, FitP q ∧ encP q = s := by
  simp only [rdB, Bool.and_eq_true, Bool.not_eq_true', decide_eq_true_eq] at hr
  obtain ⟨hl, hb, ha⟩ := hr
  obtain ⟨u, hu, he, hu1, hu4, hus, hv⟩ := lenOk_ok hl
  rw [hu, Int.toNat_natCast] at hb ha
  simp only [packR, Bool.or_eq_false_iff, Bool.not_eq_false', beq_iff_eq, Bool.false_or] at hb ha
  have hkb : kindB (kPk (bt s 0).toNat).kind = true := by
    cases hk : kindB (kPk (bt s 0).toNat).kind with
    | true => rfl
    | false =>
      exfalso
      have h1 := hb.1
      rw [hk] at h1
      simp only [Bool.not_false] at h1
      revert h1
      have hx : ¬ (1 ≤ (kPk (bt s 0).toNat).kind ∧ (kPk (bt s 0).toNat).kind ≤ 4 ∨ 8 ≤ (kPk (bt s 0).toNat).kind ∧ (kPk (bt s 0).toNat).kind ≤ 14) := by simpa [kindB] using hk
      unfold bodyR
      rw [if_neg (by omega), if_neg (by omega), if_neg (by omega), if_neg (by omega)]
      unfold widR
      rw [if_neg (by omega), if_neg (by omega)]
      simp [rnBad]
  obtain ⟨p, hf, hfn, hs⟩ := body_forthF hkb hb.1 ha
  refine ⟨p, hf, ?_⟩
  have h0 := bt_nonneg s 0
  have hle := bt_le s 0
  have hsz : s.size = 1 + u + (bodyS p).size := by
    have e := congrArg ByteArray.size hs
    rw [ByteArray.size_append, pre, ByteArray.size_extract] at e
    omega
  have hg : glGo s 1 4 0 0 = (((bodyS p).size : Int), (u : Int), 0) := by
    have e : glR s 1 = glGo s 1 4 0 0 := by unfold glR; rw [if_neg (by omega)]; rfl
    rw [← e]
    refine Prod.ext ?_ (Prod.ext hu he)
    rw [hv]; simp only; omega
  obtain ⟨q, hq, _, k, hk, _, _, hpre⟩ := gl_forth s 1 3 0 0 _ _ hg
  have hqq : q = (bodyS p).size := by simp at hq; omega
  have hku : k = u := by omega
  subst hku
  have hlen := glGo_le s 1 (by rw [hg])
  rw [hg] at hlen
  simp only at hlen
  rw [encP, numsS_one, longS, if_neg (by omega), hfn, hb.2, Int.toNat_of_nonneg h0, Int.toNat_natCast, ← hqq]
  conv => rhs; rw [hs, hpre]
  rw [show 1 + 0 = 0 + 1 from rfl, pre_num1 s 0 (by omega), beN_one]
  have e0 : pre s 0 = ⟨#[]⟩ := by
    apply ByteArray.ext; apply Array.toList_inj.1
    rw [pre_list]; simp
  rw [e0, str_nil]

/-- bytes that are no packet's -/
theorem told_bad {s : ByteArray} {p : Pk} {B : Bool} (h : Told s p B) (hb : B = true ∨ encP p ≠ s) : decE s = 1 ∧ decP s = zeroPk := by
  have hr : rdB s = false := by
    cases hr : rdB s with
    | false => rfl
    | true =>
      obtain ⟨q, h1, h2⟩ := rd_forth hr
      obtain ⟨h3, h4⟩ := h.back q h1 h2
      subst h4
      rcases hb with hb | hb
      · rw [hb] at h3; simp at h3
      · exact absurd h2 hb
  have e : decE s = 1 := by unfold decE; rw [if_pos hr]
  exact ⟨e, by unfold decP; rw [if_neg (by rw [e]; decide)]⟩
/-- .. and those that may be one's -/
theorem told_good {s : ByteArray} {p : Pk} (h : Told s p false) (hl : s.size ≤ 268435455) (he : encP p = s) : decE s = chkP p ∧ (chkP p = 0 → decP s = p) ∧ (chkP p ≠ 0 → decP s = zeroPk) := dec_fit (h.fit rfl) hl he
/-- bytes of no length, or of no kind -/
theorem told_none {s : ByteArray} (h : lenOk s = false ∨ kindB (bt s 0 / 16) = false) (hl : s.size ≤ 268435455) : decE s = 1 ∧ decP s = zeroPk :=
  told_bad (p := zeroPk) (B := true) ⟨by simp, fun q h1 h2 => by
    obtain ⟨a, b, c, _⟩ := told_start h1 hl h2
    rcases h with h | h
    · rw [h] at a; simp at a
    · rw [c, h1.kind] at h; simp at h, by simp⟩ (.inl rfl)
end Go.Proofs.YtnjdpibgfbbkcabGreatDoor
/-
  What the reference's PacketOf reads of each kind tells a packet, or that there is none: plain facts.
-/
namespace Go.Proofs.YtnjdpibgfbbkcabGreatDoor
open Go.RowKit Go.PlainAid

theorem told_1 {s : ByteArray} {n : Nat} {T1 T5 : ByteArray × Nat × Bool} {T2 T3 T4 : Int × Nat × Bool} (hl : s.size ≤ 268435455) (hk : bt s 0 / 16 = 1) (hn : n = 1 + (glR s 1).2.1.toNat)
    (h1 : tT s n false = T1) (h2 : tN s T1.2.1 1 T1.2.2 = T2) (h3 : tN s T2.2.1 1 T2.2.2 = T3) (h4 : tN s T3.2.1 2 T3.2.2 = T4) (h5 : tT s T4.2.1 T4.2.2 = T5) :
    Told s ⟨1, false, false, T3.1 == 2, false, 0, 0, T4.1, 0, T5.1, ⟨#[]⟩, ⟨#[]⟩, [], []⟩ T5.2.2 := by
  refine ⟨fun hb => ?_, fun q hq he => ?_, fun _ => ⟨by exact Nat.zero_le _, by exact Nat.zero_le _, by exact Nat.zero_le _⟩⟩
  · rw [← h5] at hb
    have f5 := tT_forth hb
    have f4 := tN_forth (.inr rfl) (show (tN s T3.2.1 2 T3.2.2).2.2 = false by rw [h4]; exact f5.1)
    rw [h4] at f4
    rw [h5] at f5
    simp only [Int.reducePow] at f4
    exact ⟨rfl, by rfl, fun _ => ⟨f5.2.2.2, f4.2.2.2.1, by have := f4.2.2.2.2.1; show T4.1 ≤ 65535; omega⟩, fun h => by simp at h, fun h => by simp at h, fun h => absurd (.inl rfl) h, fun a ha => (by cases ha), fun a ha => (by cases ha)⟩
  · obtain ⟨_, hb0, hkq, X, hs, hX⟩ := told_start hq hl he
    have hk1 : q.kind = 1 := by omega
    have hE := hq.con hk1
    have hz := bareB_ok hq.bare
    rw [show bodyS q = connectS q from if_pos hk1] at hs
    have hM : (⟨#[77, 81, 84, 84]⟩ : ByteArray).size = 4 := rfl
    have hf := flagN_le q.clean 2 (by omega)
    have z1 := txtS_len (t := ⟨#[77, 81, 84, 84]⟩) (by rw [hM]; omega)
    have z2 := numS_size1 (v := 4) (by omega) (by omega)
    have z3 := numS_size1 (v := flagN q.clean 2) (by omega) (by omega)
    have z4 := numS_size2 hE.2.1 (by omega)
    have hs0 : s = X ++ txtS ⟨#[77, 81, 84, 84]⟩ ++ numS 4 1 ++ numS (flagN q.clean 2) 1 ++ numS q.keep 2 ++ txtS q.client := by
      rw [hs, connectS, numsS_two, numsS_one]; simp only [ba_assoc]
    have r1 := tT_back (s := s) (x := X) (t := ⟨#[77, 81, 84, 84]⟩) (y := numS 4 1 ++ numS (flagN q.clean 2) 1 ++ numS q.keep 2 ++ txtS q.client) (n := n) (by rw [hs0]; simp only [ba_assoc]) (by omega) (by rw [hM]; omega)
    rw [h1] at r1; subst r1
    have r2 := tN_back (s := s) (x := X ++ txtS ⟨#[77, 81, 84, 84]⟩) (v := 4) (k := 1) (y := numS (flagN q.clean 2) 1 ++ numS q.keep 2 ++ txtS q.client) (n := n + (2 + (⟨#[77, 81, 84, 84]⟩ : ByteArray).size)) (by rw [hs0]; simp only [ba_assoc]; rfl) (by rw [ByteArray.size_append]; omega) (by omega) (numE_in (.inl rfl) (by omega) (by decide))
    simp only at h2
    rw [h2] at r2; subst r2
    have r3 := tN_back (s := s) (x := X ++ txtS ⟨#[77, 81, 84, 84]⟩ ++ numS 4 1) (v := flagN q.clean 2) (k := 1) (y := numS q.keep 2 ++ txtS q.client) (n := n + (2 + (⟨#[77, 81, 84, 84]⟩ : ByteArray).size) + 1) (by rw [hs0]; simp only [ba_assoc]; rfl) (by simp only [ByteArray.size_append]; omega) (by omega) (numE_in (.inl rfl) (by omega) (by omega))
    simp only at h3
    rw [h3] at r3; subst r3
    have r4 := tN_back (s := s) (x := X ++ txtS ⟨#[77, 81, 84, 84]⟩ ++ numS 4 1 ++ numS (flagN q.clean 2) 1) (v := q.keep) (k := 2) (y := txtS q.client) (n := n + (2 + (⟨#[77, 81, 84, 84]⟩ : ByteArray).size) + 1 + 1) (by rw [hs0]; rfl) (by simp only [ByteArray.size_append]; omega) (by omega) (numE_in (.inr rfl) (by omega) (by omega))
    simp only at h4
    rw [h4] at r4; subst r4
    have r5 := tT_back (s := s) (x := X ++ txtS ⟨#[77, 81, 84, 84]⟩ ++ numS 4 1 ++ numS (flagN q.clean 2) 1 ++ numS q.keep 2) (t := q.client) (y := ⟨#[]⟩) (n := n + (2 + (⟨#[77, 81, 84, 84]⟩ : ByteArray).size) + 1 + 1 + 2) (by rw [hs0, ba_append_nil]) (by simp only [ByteArray.size_append]; omega) (by omega)
    simp only at h5
    rw [h5] at r5; subst r5
    refine ⟨rfl, ?_⟩
    rw [wn, if_pos hk1] at hz
    simp only
    rw [flag2 _ _ (by decide)]
    clear hq hE hs hs0 h1 h2 h3 h4 h5 z3 z4 hf he hb0 hkq
    obtain ⟨k, d, r, c, se, qo, i, kp, cd, cl, tp, pl, l, cs⟩ := q
    simp only at hz hk1 ⊢
    obtain ⟨rfl, rfl, _, rfl, rfl, rfl, _, rfl, _, rfl, rfl, rfl, rfl⟩ := hz
    rw [hk1]

theorem told_2 {s : ByteArray} {n : Nat} {T1 T2 : Int × Nat × Bool} (hl : s.size ≤ 268435455) (hk : bt s 0 / 16 = 2) (hn : n = 1 + (glR s 1).2.1.toNat)
    (h1 : tN s n 1 false = T1) (h2 : tN s T1.2.1 1 T1.2.2 = T2) :
    Told s ⟨2, false, false, false, T1.1 == 1, 0, 0, 0, T2.1, ⟨#[]⟩, ⟨#[]⟩, ⟨#[]⟩, [], []⟩ T2.2.2 := by
  refine ⟨fun hb => ?_, fun q hq he => ?_, fun _ => ⟨by exact Nat.zero_le _, by exact Nat.zero_le _, by exact Nat.zero_le _⟩⟩
  · rw [← h2] at hb
    have f2 := tN_forth (.inl rfl) hb
    rw [h2] at f2
    simp only [Int.reducePow] at f2
    exact ⟨rfl, by rfl, fun h => by simp at h, fun _ => ⟨f2.2.2.2.1, by have := f2.2.2.2.2.1; show T2.1 ≤ 255; omega⟩, fun h => by simp at h, fun h => absurd (.inr (.inl rfl)) h, fun a ha => (by cases ha), fun a ha => (by cases ha)⟩
  · obtain ⟨_, hb0, hkq, X, hs, hX⟩ := told_start hq hl he
    have hk1 : q.kind = 2 := by omega
    have hE := hq.ack hk1
    have hz := bareB_ok hq.bare
    rw [show bodyS q = numsS 1 [flagN q.session 1, q.code] from (if_neg (by omega)).trans (if_pos hk1), numsS_two] at hs
    have hf := flagN_le q.session 1 (by omega)
    have z1 := numS_size1 (v := flagN q.session 1) (by omega) (by omega)
    have r1 := tN_back (s := s) (x := X) (v := flagN q.session 1) (k := 1) (y := numS q.code 1) (n := n) (by rw [hs]; simp only [ba_assoc]; rfl) (by omega) (by omega) (numE_in (.inl rfl) (by omega) (by omega))
    rw [h1] at r1; subst r1
    have r2 := tN_back (s := s) (x := X ++ numS (flagN q.session 1) 1) (v := q.code) (k := 1) (y := ⟨#[]⟩) (n := n + 1) (by rw [hs, ba_append_nil]; simp only [ba_assoc]; rfl) (by rw [ByteArray.size_append]; omega) (by omega) (numE_in (.inl rfl) (by omega) (by omega))
    simp only at h2
    rw [h2] at r2; subst r2
    refine ⟨rfl, ?_⟩
    rw [wn, if_neg (by omega), if_pos hk1] at hz
    simp only
    rw [flag2 _ _ (by decide)]
    clear hq hE hs h1 h2 z1 hf he hb0 hkq
    obtain ⟨k, d, r, c, se, qo, i, kp, cd, cl, tp, pl, l, cs⟩ := q
    simp only at hz hk1 ⊢
    obtain ⟨rfl, rfl, rfl, _, rfl, rfl, rfl, _, rfl, rfl, rfl, rfl, rfl⟩ := hz
    rw [hk1]

/-- the marks in a Publish's first byte -/
theorem pub_marks (d r : Bool) (q : Int) (hq : q = 0 ∨ q = 1) : ((48 + (flagN d 8 + q * 2 + flagN r 1)) % 16 / 2 % 4 = q) ∧ (decide ((8 : Int) ≤ (48 + (flagN d 8 + q * 2 + flagN r 1)) % 16) = d) ∧ ((48 + (flagN d 8 + q * 2 + flagN r 1)) % 16 % 2 == 1) = r := by
  rcases hq with rfl | rfl <;> cases d <;> cases r <;> refine ⟨?_, ?_, ?_⟩ <;> decide
theorem told_3no {s : ByteArray} {p : Pk} (hl : s.size ≤ 268435455) (hk : bt s 0 / 16 = 3) (hq : 1 < bt s 0 % 16 / 2 % 4) : Told s p true := by
  refine ⟨by simp, fun q hq' he => ?_, by simp⟩
  obtain ⟨_, hb0, hkq, X, hs, hX⟩ := told_start hq' hl he
  have hk1 : q.kind = 3 := by omega
  have hE := hq'.pub hk1
  have := pub_marks q.dup q.retain q.qos hE.2.1
  rw [hb0, show firstN q = q.kind * 16 + (flagN q.dup 8 + q.qos * 2 + flagN q.retain 1) from if_pos hk1, hk1, show (3 : Int) * 16 = 48 from rfl, this.1] at hq
  omega
theorem told_30 {s : ByteArray} {n : Nat} {T1 : ByteArray × Nat × Bool} (hl : s.size ≤ 268435455) (hk : bt s 0 / 16 = 3) (hq0 : bt s 0 % 16 / 2 % 4 = 0) (hn : n = 1 + (glR s 1).2.1.toNat)
    (h1 : tT s n false = T1) :
    Told s ⟨3, decide (8 ≤ bt s 0 % 16), bt s 0 % 16 % 2 == 1, false, false, 0, 0, 0, 0, ⟨#[]⟩, T1.1, if T1.2.2 = false then s.extract T1.2.1 s.size else ⟨#[]⟩, [], []⟩ T1.2.2 := by
  refine ⟨fun hb => ?_, fun q hq he => ?_, fun hb => ⟨by simp only; rw [if_pos hb, ByteArray.size_extract]; omega, by exact Nat.zero_le _, by exact Nat.zero_le _⟩⟩
  · rw [← h1] at hb
    have f1 := tT_forth hb
    rw [h1] at f1
    exact ⟨rfl, by rfl, fun h => by simp at h, fun h => by simp at h, fun _ => ⟨f1.2.2.2, .inl rfl, fun h => by simp at h, fun _ => rfl⟩, fun h => absurd (.inr (.inr (.inl rfl))) h, fun a ha => (by cases ha), fun a ha => (by cases ha)⟩
  · obtain ⟨_, hb0, hkq, X, hs, hX⟩ := told_start hq hl he
    have hk1 : q.kind = 3 := by omega
    have hE := hq.pub hk1
    have hz := bareB_ok hq.bare
    have hm := pub_marks q.dup q.retain q.qos hE.2.1
    rw [show firstN q = q.kind * 16 + (flagN q.dup 8 + q.qos * 2 + flagN q.retain 1) from if_pos hk1, hk1, show (3 : Int) * 16 = 48 from rfl] at hb0
    rw [hb0] at hq0 ⊢
    rw [hm.1] at hq0
    rw [hm.2.1, hm.2.2]
    rw [show bodyS q = publishS q from (if_neg (by omega)).trans ((if_neg (by omega)).trans (if_pos hk1)), publishS, if_neg (by omega), ba_append_nil, ← ba_assoc] at hs
    have z1 := txtS_len (t := q.topic) (by omega)
    have r1 := tT_back (s := s) (x := X) (t := q.topic) (y := q.payload) (n := n) hs (by omega) (by omega)
    rw [h1] at r1; subst r1
    refine ⟨rfl, ?_⟩
    have hx : s.extract (n + (2 + q.topic.size)) s.size = q.payload := ext_back hs (by rw [ByteArray.size_append]; omega)
    simp only
    rw [if_pos trivial, hx]
    rw [wn, if_neg (by omega), if_neg (by omega), if_pos hk1] at hz
    have hi := hE.2.2.2 hq0
    clear hq hE hs h1 z1 he hb0 hkq hm hx
    obtain ⟨k, d, r, c, se, qo, i, kp, cd, cl, tp, pl, l, cs⟩ := q
    simp only at hz hk1 hi hq0 ⊢
    obtain ⟨_, _, rfl, rfl, _, _, rfl, rfl, rfl, _, _, rfl, rfl⟩ := hz
    rw [hk1, hi, hq0]
theorem told_31 {s : ByteArray} {n : Nat} {T1 : ByteArray × Nat × Bool} {T2 : Int × Nat × Bool} (hl : s.size ≤ 268435455) (hk : bt s 0 / 16 = 3) (hq0 : bt s 0 % 16 / 2 % 4 = 1) (hn : n = 1 + (glR s 1).2.1.toNat)
    (h1 : tT s n false = T1) (h2 : tN s T1.2.1 2 T1.2.2 = T2) :
    Told s ⟨3, decide (8 ≤ bt s 0 % 16), bt s 0 % 16 % 2 == 1, false, false, 1, T2.1, 0, 0, ⟨#[]⟩, T1.1, if T2.2.2 = false then s.extract T2.2.1 s.size else ⟨#[]⟩, [], []⟩ T2.2.2 := by
  refine ⟨fun hb => ?_, fun q hq he => ?_, fun hb => ⟨by simp only; rw [if_pos hb, ByteArray.size_extract]; omega, by exact Nat.zero_le _, by exact Nat.zero_le _⟩⟩
  · rw [← h2] at hb
    have f2 := tN_forth (.inr rfl) hb
    have f1 := tT_forth (show (tT s n false).2.2 = false by rw [h1]; exact f2.1)
    rw [h1] at f1
    rw [h2] at f2
    simp only [Int.reducePow] at f2
    exact ⟨rfl, by rfl, fun h => by simp at h, fun h => by simp at h, fun _ => ⟨f1.2.2.2, .inr rfl, fun _ => ⟨f2.2.2.2.1, by have := f2.2.2.2.2.1; show T2.1 ≤ 65535; omega⟩, fun h => by simp at h⟩, fun h => absurd (.inr (.inr (.inl rfl))) h, fun a ha => (by cases ha), fun a ha => (by cases ha)⟩
  · obtain ⟨_, hb0, hkq, X, hs, hX⟩ := told_start hq hl he
    have hk1 : q.kind = 3 := by omega
    have hE := hq.pub hk1
    have hz := bareB_ok hq.bare
    have hm := pub_marks q.dup q.retain q.qos hE.2.1
    rw [show firstN q = q.kind * 16 + (flagN q.dup 8 + q.qos * 2 + flagN q.retain 1) from if_pos hk1, hk1, show (3 : Int) * 16 = 48 from rfl] at hb0
    rw [hb0] at hq0 ⊢
    rw [hm.1] at hq0
    rw [hm.2.1, hm.2.2]
    have hi := hE.2.2.1 hq0
    rw [show bodyS q = publishS q from (if_neg (by omega)).trans ((if_neg (by omega)).trans (if_pos hk1)), publishS, if_pos hq0, numsS_one] at hs
    have z1 := txtS_len (t := q.topic) (by omega)
    have z2 := numS_size2 hi.1 (by omega)
    have hs0 : s = X ++ txtS q.topic ++ numS q.id 2 ++ q.payload := by rw [hs]; simp only [ba_assoc]
    have r1 := tT_back (s := s) (x := X) (t := q.topic) (y := numS q.id 2 ++ q.payload) (n := n) (by rw [hs0]; simp only [ba_assoc]) (by omega) (by omega)
    rw [h1] at r1; subst r1
    have r2 := tN_back (s := s) (x := X ++ txtS q.topic) (v := q.id) (k := 2) (y := q.payload) (n := n + (2 + q.topic.size)) (by rw [hs0]; rfl) (by rw [ByteArray.size_append]; omega) (by omega) (numE_in (.inr rfl) (by omega) (by omega))
    simp only at h2
    rw [h2] at r2; subst r2
    refine ⟨rfl, ?_⟩
    have hx : s.extract (n + (2 + q.topic.size) + 2) s.size = q.payload := ext_back hs0 (by simp only [ByteArray.size_append]; omega)
    simp only
    rw [if_pos trivial, hx]
    rw [wn, if_neg (by omega), if_neg (by omega), if_pos hk1] at hz
    clear hq hE hs hs0 h1 h2 z1 z2 he hb0 hkq hm hx hi
    obtain ⟨k, d, r, c, se, qo, i, kp, cd, cl, tp, pl, l, cs⟩ := q
    simp only at hz hk1 hq0 ⊢
    obtain ⟨_, _, rfl, rfl, _, _, rfl, rfl, rfl, _, _, rfl, rfl⟩ := hz
    rw [hk1, hq0]

theorem told_id {s : ByteArray} {n : Nat} {k : Int} {T1 : Int × Nat × Bool} (hk4 : k = 4 ∨ k = 11) (hl : s.size ≤ 268435455) (hk : bt s 0 / 16 = k) (hn : n = 1 + (glR s 1).2.1.toNat)
    (h1 : tN s n 2 false = T1) :
    Told s ⟨k, false, false, false, false, 0, T1.1, 0, 0, ⟨#[]⟩, ⟨#[]⟩, ⟨#[]⟩, [], []⟩ T1.2.2 := by
  refine ⟨fun hb => ?_, fun q hq he => ?_, fun _ => ⟨by exact Nat.zero_le _, by exact Nat.zero_le _, by exact Nat.zero_le _⟩⟩
  · rw [← h1] at hb
    have f1 := tN_forth (.inr rfl) hb
    rw [h1] at f1
    simp only [Int.reducePow] at f1
    refine ⟨by rcases hk4 with rfl | rfl <;> rfl, by rcases hk4 with rfl | rfl <;> rfl, fun h => by simp only at h; omega, fun h => by simp only at h; omega, fun h => by simp only at h; omega, fun _ => ⟨f1.2.2.2.1, by have := f1.2.2.2.2.1; show T1.1 ≤ 65535; omega⟩, fun a ha => (by cases ha), fun a ha => (by cases ha)⟩
  · obtain ⟨_, hb0, hkq, X, hs, hX⟩ := told_start hq hl he
    have hk1 : q.kind = k := by omega
    have hE := hq.wid (by omega)
    have hz := bareB_ok hq.bare
    rw [wn, if_neg (by omega), if_neg (by omega), if_neg (by omega), if_pos (by omega)] at hz
    have ha : q.asks = [] := hz.2.2.2.2.2.2.2.2.2.2.2.1
    have hc : q.codes = [] := hz.2.2.2.2.2.2.2.2.2.2.2.2
    rw [show bodyS q = withIdS q from (if_neg (by omega)).trans ((if_neg (by omega)).trans ((if_neg (by omega)).trans (if_neg (by omega)))), withIdS, numsS_one, ha, hc, asksS, numsS, ba_append_nil, ba_append_nil] at hs
    have r1 := tN_back (s := s) (x := X) (v := q.id) (k := 2) (y := ⟨#[]⟩) (n := n) (by rw [hs, ba_append_nil]; rfl) (by omega) (by omega) (numE_in (.inr rfl) (by omega) (by omega))
    rw [h1] at r1; subst r1
    refine ⟨rfl, ?_⟩
    clear hq hE hs h1 he hb0 hkq ha hc
    obtain ⟨k', d, r, c, se, qo, i, kp, cd, cl, tp, pl, l, cs⟩ := q
    simp only at hz hk1 ⊢
    obtain ⟨rfl, rfl, rfl, rfl, rfl, _, rfl, rfl, rfl, rfl, rfl, rfl, rfl⟩ := hz
    rw [hk1]

theorem told_asks {s : ByteArray} {n : Nat} {k : Int} {T1 : Int × Nat × Bool} {R : List (ByteArray × Int) × Nat × Bool} (hk8 : k = 8 ∨ k = 10) (hl : s.size ≤ 268435455) (hk : bt s 0 / 16 = k) (hn : n = 1 + (glR s 1).2.1.toNat) (hns : n ≤ s.size)
    (h1 : tN s n 2 false = T1) (h2 : xAsks s k (s.size + 1) T1.2.1 T1.2.2 [] = R) :
    Told s ⟨k, false, false, false, false, 0, T1.1, 0, 0, ⟨#[]⟩, ⟨#[]⟩, ⟨#[]⟩, R.1, []⟩ R.2.2 := by
  refine ⟨fun hb => ?_, fun q hq he => ?_, fun hb => ⟨by exact Nat.zero_le _, by rw [← h2] at hb ⊢; have hT : T1.2.1 ≤ s.size := (by rw [← h1]; exact tN_le (.inr rfl) hns); have := xAsks_size _ _ _ _ hT hb; simp only [asksS] at this; have e : (⟨#[]⟩ : ByteArray).size = 0 := rfl; simp only; omega, by exact Nat.zero_le _⟩⟩
  · rw [← h2] at hb
    have f2 := xAsks_fit _ _ _ _ hb (fun a ha => (by cases ha))
    have f1 := tN_forth (.inr rfl) (show (tN s n 2 false).2.2 = false by rw [h1]; exact f2.1)
    rw [h1] at f1
    rw [h2] at f2
    simp only [Int.reducePow] at f1
    refine ⟨by rcases hk8 with rfl | rfl <;> rfl, by rcases hk8 with rfl | rfl <;> rfl, fun h => by simp only at h; omega, fun h => by simp only at h; omega, fun h => by simp only at h; omega, fun _ => ⟨f1.2.2.2.1, by have := f1.2.2.2.2.1; show T1.1 ≤ 65535; omega⟩, fun a ha => f2.2 a ha, fun a ha => (by cases ha)⟩
  · obtain ⟨_, hb0, hkq, X, hs, hX⟩ := told_start hq hl he
    have hk1 : q.kind = k := by omega
    have hE := hq.wid (by omega)
    have hA := hq.asks
    have hz := bareB_ok hq.bare
    rw [wn, if_neg (by omega), if_neg (by omega), if_neg (by omega), if_neg (by omega), if_pos (by omega)] at hz
    have hc : q.codes = [] := hz.2.2.2.2.2.2.2.2.2.2.2.2
    rw [show bodyS q = withIdS q from (if_neg (by omega)).trans ((if_neg (by omega)).trans ((if_neg (by omega)).trans (if_neg (by omega)))), withIdS, numsS_one, hc, numsS, ba_append_nil, ← ba_assoc] at hs
    have z1 := numS_size2 (v := q.id) (by omega) (by omega)
    have r1 := tN_back (s := s) (x := X) (v := q.id) (k := 2) (y := asksS q.kind q.asks) (n := n) (by rw [hs]; rfl) (by omega) (by omega) (numE_in (.inr rfl) (by omega) (by omega))
    rw [h1] at r1; subst r1
    have r2 := xAsks_back (s := s) (kind := q.kind) q.asks [] (X ++ numS q.id 2) (n + 2) (s.size + 1) hs (by rw [ByteArray.size_append]; omega) hA (by
      have hsz : s.size = X.size + 2 + (asksS q.kind q.asks).size := by conv => lhs; rw [hs]
                                                                        simp only [ByteArray.size_append]; omega
      have := asks_len65 q.kind q.asks (fun a ha => (hA a ha).1)
      omega)
    simp only at h2
    rw [hk1, h2] at r2; subst r2
    refine ⟨rfl, ?_⟩
    clear hq hE hA hs h1 h2 he hb0 hkq hc z1
    obtain ⟨k', d, r, c, se, qo, i, kp, cd, cl, tp, pl, l, cs⟩ := q
    simp only at hz hk1 ⊢
    obtain ⟨rfl, rfl, rfl, rfl, rfl, _, rfl, rfl, rfl, rfl, rfl, _, rfl⟩ := hz
    rw [hk1, List.nil_append]

theorem told_codes {s : ByteArray} {n : Nat} {T1 : Int × Nat × Bool} {R : List Int × Nat × Bool} (hl : s.size ≤ 268435455) (hk : bt s 0 / 16 = 9) (hn : n = 1 + (glR s 1).2.1.toNat) (hns : n ≤ s.size)
    (h1 : tN s n 2 false = T1) (h2 : xCodes s (s.size + 1) T1.2.1 T1.2.2 [] = R) :
    Told s ⟨9, false, false, false, false, 0, T1.1, 0, 0, ⟨#[]⟩, ⟨#[]⟩, ⟨#[]⟩, [], R.1⟩ R.2.2 := by
  refine ⟨fun hb => ?_, fun q hq he => ?_, fun hb => ⟨by exact Nat.zero_le _, by exact Nat.zero_le _, by rw [← h2] at hb ⊢; have hT : T1.2.1 ≤ s.size := (by rw [← h1]; exact tN_le (.inr rfl) hns); have := xCodes_size _ _ _ _ hT hb; simp only [numsS] at this; have e : (⟨#[]⟩ : ByteArray).size = 0 := rfl; simp only; omega⟩⟩
  · rw [← h2] at hb
    have f2 := xCodes_fit _ _ _ _ hb (fun a ha => (by cases ha))
    have f1 := tN_forth (.inr rfl) (show (tN s n 2 false).2.2 = false by rw [h1]; exact f2.1)
    rw [h1] at f1
    rw [h2] at f2
    simp only [Int.reducePow] at f1
    exact ⟨rfl, by rfl, fun h => by simp at h, fun h => by simp at h, fun h => by simp at h, fun _ => ⟨f1.2.2.2.1, by have := f1.2.2.2.2.1; show T1.1 ≤ 65535; omega⟩, fun a ha => (by cases ha), fun a ha => f2.2 a ha⟩
  · obtain ⟨_, hb0, hkq, X, hs, hX⟩ := told_start hq hl he
    have hk1 : q.kind = 9 := by omega
    have hE := hq.wid (by omega)
    have hC := hq.codes
    have hz := bareB_ok hq.bare
    rw [wn, if_neg (by omega), if_neg (by omega), if_neg (by omega), if_neg (by omega), if_neg (by omega), if_pos (by omega)] at hz
    have ha : q.asks = [] := hz.2.2.2.2.2.2.2.2.2.2.2.1
    rw [show bodyS q = withIdS q from (if_neg (by omega)).trans ((if_neg (by omega)).trans ((if_neg (by omega)).trans (if_neg (by omega)))), withIdS, numsS_one, ha, asksS, ba_append_nil, ← ba_assoc] at hs
    have z1 := numS_size2 (v := q.id) (by omega) (by omega)
    have r1 := tN_back (s := s) (x := X) (v := q.id) (k := 2) (y := numsS 1 q.codes) (n := n) (by rw [hs]; rfl) (by omega) (by omega) (numE_in (.inr rfl) (by omega) (by omega))
    rw [h1] at r1; subst r1
    have r2 := xCodes_back (s := s) q.codes [] (X ++ numS q.id 2) (n + 2) (s.size + 1) hs (by rw [ByteArray.size_append]; omega) hC (by
      have hsz : s.size = X.size + 2 + (numsS 1 q.codes).size := by conv => lhs; rw [hs]
                                                                    simp only [ByteArray.size_append]; omega
      have := codes_len q.codes (fun a ha => by have := hC a ha; omega)
      omega)
    simp only at h2
    rw [h2] at r2; subst r2
    refine ⟨rfl, ?_⟩
    clear hq hE hC hs h1 h2 he hb0 hkq ha z1
    obtain ⟨k', d, r, c, se, qo, i, kp, cd, cl, tp, pl, l, cs⟩ := q
    simp only at hz hk1 ⊢
    obtain ⟨rfl, rfl, rfl, rfl, rfl, _, rfl, rfl, rfl, rfl, rfl, rfl, _⟩ := hz
    rw [hk1, List.nil_append]

theorem told_bare {s : ByteArray} {k : Int} (hk12 : k = 12 ∨ k = 13 ∨ k = 14) (hl : s.size ≤ 268435455) (hk : bt s 0 / 16 = k) :
    Told s ⟨k, false, false, false, false, 0, 0, 0, 0, ⟨#[]⟩, ⟨#[]⟩, ⟨#[]⟩, [], []⟩ false := by
  refine ⟨fun _ => ?_, fun q hq he => ?_, fun _ => ⟨by exact Nat.zero_le _, by exact Nat.zero_le _, by exact Nat.zero_le _⟩⟩
  · exact ⟨by rcases hk12 with rfl | rfl | rfl <;> rfl, by rcases hk12 with rfl | rfl | rfl <;> rfl, fun h => by simp only at h; omega, fun h => by simp only at h; omega, fun h => by simp only at h; omega, fun h => absurd (.inr (.inr (.inr hk12))) h, fun a ha => (by cases ha), fun a ha => (by cases ha)⟩
  · obtain ⟨_, hb0, hkq, X, hs, hX⟩ := told_start hq hl he
    have hk1 : q.kind = k := by omega
    have hz := bareB_ok hq.bare
    rw [wn, if_neg (by omega), if_neg (by omega), if_neg (by omega), if_neg (by omega), if_neg (by omega), if_neg (by omega)] at hz
    refine ⟨rfl, ?_⟩
    clear hq hs he hb0 hkq
    obtain ⟨k', d, r, c, se, qo, i, kp, cd, cl, tp, pl, l, cs⟩ := q
    simp only at hz hk1 ⊢
    obtain ⟨rfl, rfl, rfl, rfl, rfl, rfl, rfl, rfl, rfl, rfl, rfl, rfl, rfl⟩ := hz
    rw [hk1]
end Go.Proofs.YtnjdpibgfbbkcabGreatDoor
