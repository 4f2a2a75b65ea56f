/-
  What is encoded is decoded as it was, and nothing else is: messages, plain facts.
-/
import Derived.Test.YtedlebkpdejhiacMsgMath
import Derived.Test.YtedlebkpdejhiacPacketForthMath
namespace Go.Proofs.Ytedlebkpdejhiac
open Go.RowKit Go.PlainAid

theorem ext_two (x y : ByteArray) : (x ++ y).extract 0 x.size = x ∧ (x ++ y).extract x.size (x ++ y).size = y := by
  have e1 : x.data.toList.length = x.size := by simp
  have e2 : y.data.toList.length = y.size := by simp
  constructor
  · apply ByteArray.ext; apply Array.toList_inj.1
    rw [Lib.extract_data, ByteArray.data_append, Array.toList_append, List.drop_zero, Nat.sub_zero, List.take_left' e1]
  · apply ByteArray.ext; apply Array.toList_inj.1
    rw [Lib.extract_data, ByteArray.size_append, ByteArray.data_append, Array.toList_append, List.drop_left' e1, List.take_of_length_le (by omega)]
theorem tk_two {x y l : ByteArray} {k : Nat} (hl : l = x ++ y) (hk : k = x.size) (bad : Bool) : tk l k = x ∧ tkL l k = y ∧ tkB l k bad = bad := by
  subst hl; subst hk
  have h := ext_two x y
  have hz : x.size ≤ (x ++ y).size := by rw [ByteArray.size_append]; omega
  refine ⟨by rw [tk, if_pos hz, h.1], by rw [tkL, if_pos hz, h.2], ?_⟩
  rw [tkB, decide_eq_false (by omega), Bool.or_false]
/-- what was taken and what is left are all that was there -/
theorem tk_forth {l : ByteArray} {k : Nat} {bad : Bool} (h : tkB l k bad = false) : bad = false ∧ l = tk l k ++ tkL l k ∧ (tk l k).size = k ∧ (tkL l k).size + k = l.size := by
  simp only [tkB, Bool.or_eq_false_iff, decide_eq_false_iff_not] at h
  have hz : k ≤ l.size := by omega
  refine ⟨h.1, ?_, ?_, ?_⟩
  · rw [tk, if_pos hz, tkL, if_pos hz]
    have := pre_ext l (n := k) (m := l.size) hz
    rwa [pre_all] at this
  · rw [tk, if_pos hz, ByteArray.size_extract]; omega
  · rw [tkL, if_pos hz, ByteArray.size_extract]; omega

theorem nuE {v : Int} {k : Nat} (hk : k = 1 ∨ k = 2) (h0 : 0 ≤ v) (h1 : v < 256 ^ k) : numE v k = 0 := numE_in2 hk h0 h1
/-- a number that was told is read -/
theorem nu_back {l y : ByteArray} {v : Int} {k : Nat} (hl : l = numS v k ++ y) (hk : k = 1 ∨ k = 2) (h0 : 0 ≤ v) (h1 : v < 256 ^ k) (bad : Bool) : nu l k = v ∧ tkL l k = y ∧ tkB l k bad = bad := by
  have hE := nuE hk h0 h1
  have hz := numS_size hE
  have h2 := tk_two (x := numS v k) (y := y) (k := k) hl (by omega) bad
  refine ⟨?_, h2.2.1, h2.2.2⟩
  have hb := num_back hE ⟨#[]⟩ y
  rw [str_nil, ← hl] at hb
  rw [nu, if_pos (by rw [hl, ByteArray.size_append]; omega)]
  simp only [Int.toNat_natCast] at hb
  exact hb
/-- a number that was read stands there -/
theorem nu_forth {l : ByteArray} {k : Nat} {bad : Bool} (hk : k = 1 ∨ k = 2) (h : tkB l k bad = false) : bad = false ∧ l = numS (nu l k) k ++ tkL l k ∧ 0 ≤ nu l k ∧ nu l k < 256 ^ k ∧ (tkL l k).size + k = l.size := by
  obtain ⟨h1, h2, h3, h4⟩ := tk_forth h
  have hz : k ≤ l.size := by omega
  have hb := beN_lt l 0 k
  have e0 : pre l 0 = ⟨#[]⟩ := by
    apply ByteArray.ext; apply Array.toList_inj.1
    rw [pre_list]; simp
  have hn : nu l k = (beN l 0 k : Int) := by rw [nu, if_pos hz]
  have hp : pre l k = numS (nu l k) k := by
    rw [hn]
    rcases hk with rfl | rfl
    · have := pre_num1 l 0 (by omega); rw [e0, str_nil] at this; exact this
    · have := pre_num2 l 0 (by omega); rw [e0, str_nil] at this; exact this
  refine ⟨h1, ?_, by omega, ?_, h4⟩
  · rw [← hp]
    rw [tk, if_pos hz] at h2
    exact h2
  · rw [hn]
    have : ((beN l 0 k : Nat) : Int) < ((256 ^ k : Nat) : Int) := Int.ofNat_lt.2 hb
    simpa using this

theorem bt_nu (l : ByteArray) : bt l 0 = nu l 1 := by
  rw [nu]
  split
  · rw [bt_getD]; simp [beN]
  · rename_i h
    have hl : l.data.toList.length = l.size := by simp
    rw [bt_getD, List.getD_eq_getElem?_getD, List.getElem?_eq_none (by omega)]; rfl

/-- a half that was told is read -/
theorem am_back {l y : ByteArray} {n : Int} (hl : l = halfS n ++ y) (h0 : 0 ≤ n) (h1 : n ≤ 65804) (bad : Bool) : am l (halfN n) = n ∧ amL l (halfN n) = y ∧ amB l (halfN n) bad = bad := by
  unfold halfS at hl
  unfold halfN
  split
  · rename_i h
    rw [if_pos h, str_nil] at hl
    rw [am, amL, amB, if_neg (by omega), if_neg (by omega), if_neg (by omega), if_neg (by omega), if_neg (by omega), if_neg (by omega)]
    exact ⟨rfl, hl, by rw [decide_eq_false (by omega), Bool.or_false]⟩
  · rename_i h
    rw [if_neg h] at hl
    split
    · rename_i h2
      rw [if_pos h2] at hl
      obtain ⟨a, b, c⟩ := nu_back (k := 1) hl (.inl rfl) (by omega) (by simp; omega) bad
      rw [am, amL, amB, if_pos rfl, if_pos rfl, if_pos rfl, a, b, c]
      exact ⟨by omega, rfl, rfl⟩
    · rename_i h2
      rw [if_neg h2] at hl
      obtain ⟨a, b, c⟩ := nu_back (k := 2) hl (.inr rfl) (by omega) (by simp; omega) bad
      refine ⟨?_, ?_, ?_⟩
      · rw [am, if_neg (by decide), if_pos rfl, a]; omega
      · rw [amL, if_neg (by decide), if_pos rfl, b]
      · rw [amB, if_neg (by decide), if_pos rfl, c]
/-- a half that was read stands there -/
theorem am_forth {l : ByteArray} {t : Int} {bad : Bool} (h0 : 0 ≤ t) (h : amB l t bad = false) : bad = false ∧ l = halfS (am l t) ++ amL l t ∧ halfN (am l t) = t ∧ 0 ≤ am l t ∧ am l t ≤ 65804 ∧ (amL l t).size ≤ l.size := by
  unfold amB at h
  by_cases h13 : t = 13
  · subst h13
    rw [if_pos rfl] at h
    obtain ⟨a, b, c, d, e⟩ := nu_forth (.inl rfl) h
    simp at d
    rw [am, if_pos rfl, amL, if_pos rfl, halfS, if_neg (by omega), if_pos (by omega), halfN, if_neg (by omega), if_pos (by omega), show 13 + nu l 1 - 13 = nu l 1 by omega]
    exact ⟨a, b, rfl, by omega, by omega, by omega⟩
  · by_cases h14 : t = 14
    · subst h14
      rw [if_neg (by omega), if_pos rfl] at h
      obtain ⟨a, b, c, d, e⟩ := nu_forth (.inr rfl) h
      simp at d
      rw [am, if_neg (by omega), if_pos rfl, amL, if_neg (by omega), if_pos rfl, halfS, if_neg (by omega), if_neg (by omega), halfN, if_neg (by omega), if_neg (by omega), show 269 + nu l 2 - 269 = nu l 2 by omega]
      exact ⟨a, b, rfl, by omega, by omega, by omega⟩
    · rw [if_neg h13, if_neg h14] at h
      simp only [Bool.or_eq_false_iff, decide_eq_false_iff_not] at h
      rw [am, if_neg h13, if_neg h14, amL, if_neg h13, if_neg h14, halfS, if_pos (by omega), halfN, if_pos (by omega), str_nil]
      exact ⟨h.1, rfl, rfl, by omega, by omega, Nat.le_refl _⟩

theorem halfN_le {n : Int} (h0 : 0 ≤ n) : 0 ≤ halfN n ∧ halfN n ≤ 14 := by unfold halfN; split <;> (try split) <;> omega
theorem headS_cut (z : ByteArray) (more many : Int) : headS more many ++ z = numS (halfN more * 16 + halfN many) 1 ++ (halfS more ++ (halfS many ++ z)) := by
  rw [headS]; simp only [mb_assoc]
theorem head_size {more many : Int} (h1 : 0 ≤ more) (h2 : 0 ≤ many) : 1 ≤ (headS more many).size := by
  have a := halfN_le h1
  have b := halfN_le h2
  have := numS_size (nuE (v := halfN more * 16 + halfN many) (k := 1) (.inl rfl) (by omega) (by simp; omega))
  rw [headS, ByteArray.size_append, ByteArray.size_append]
  simp at this
  omega

/-- an option that was told is read -/
theorem o_back {l y : ByteArray} {a : Int} {o : Int × ByteArray} (hl : l = optS a o ++ y) (h0 : 0 ≤ o.1 - a) (h1 : o.1 - a ≤ 65535) (h2 : o.2.size ≤ 60) :
    0 < l.size ∧ bt l 0 ≠ 255 ∧ oMore l = o.1 - a ∧ oVal l = o.2 ∧ oLeft l = y ∧ oBad l false = false := by
  have a1 := halfN_le h0
  have a2 := halfN_le (n := (o.2.size : Int)) (by omega)
  have hs := head_size h0 (many := (o.2.size : Int)) (by omega)
  have hl1 : l = numS (halfN (o.1 - a) * 16 + halfN o.2.size) 1 ++ (halfS (o.1 - a) ++ (halfS o.2.size ++ (o.2 ++ y))) := by
    rw [hl, optS, mb_assoc]
    exact headS_cut (o.2 ++ y) _ _
  obtain ⟨n1, n2, n3⟩ := nu_back (k := 1) hl1 (.inl rfl) (by omega) (by simp; omega) false
  have t1 : nu l 1 / 16 = halfN (o.1 - a) := by rw [n1]; omega
  have t2 : nu l 1 % 16 = halfN o.2.size := by rw [n1]; omega
  obtain ⟨p1, p2, p3⟩ := am_back n2 h0 (by omega) false
  obtain ⟨q1, q2, q3⟩ := am_back p2 (n := (o.2.size : Int)) (by omega) (by omega) false
  have e1 : oMore l = o.1 - a := by unfold oMore oL1; rw [t1]; exact p1
  have e2 : oL2 l = halfS o.2.size ++ (o.2 ++ y) := by unfold oL2 oL1; rw [t1]; exact p2
  have e3 : oMany l = (o.2.size : Int) := by unfold oMany oL2 oL1; rw [t1, t2]; exact q1
  have e4 : oL3 l = o.2 ++ y := by unfold oL3 oL2 oL1; rw [t1, t2]; exact q2
  obtain ⟨r1, r2, r3⟩ := tk_two e4 (k := (oMany l).toNat) (by rw [e3]; rfl) false
  refine ⟨?_, ?_, e1, r1, r2, ?_⟩
  · rw [hl, optS]; simp only [ByteArray.size_append]; omega
  · rw [bt_nu, n1]; omega
  · unfold oBad oL2 oL1
    rw [t1, t2, n3, p3, q3]; exact r3
/-- an option that was read stands there -/
theorem o_forth {l : ByteArray} {a : Int} {bad : Bool} (h : oBad l bad = false) : bad = false ∧ l = optS a (a + oMore l, oVal l) ++ oLeft l ∧ (oLeft l).size < l.size ∧ 0 ≤ oMore l ∧ oMore l ≤ 65804 := by
  unfold oBad at h
  obtain ⟨b3, k3, s3, z3⟩ := tk_forth h
  have hnn : 0 ≤ nu l 1 := by unfold nu; split <;> omega
  obtain ⟨b2, k2, g2, p2, u2, z2⟩ := am_forth (by omega) b3
  obtain ⟨b1, k1, g1, p1, u1, z1⟩ := am_forth (by omega) b2
  obtain ⟨b0, k0, c0, d0, z0⟩ := nu_forth (.inl rfl) b1
  have e3 : ((oVal l).size : Int) = oMany l := by
    have : (oVal l).size = (oMany l).toNat := s3
    have hp : 0 ≤ oMany l := p2
    omega
  refine ⟨b0, ?_, ?_, p1, u1⟩
  · rw [optS, mb_assoc, headS_cut]
    simp only
    rw [show a + oMore l - a = oMore l by omega, e3]
    have e1 : halfN (oMore l) * 16 + halfN (oMany l) = nu l 1 := by
      have x1 : halfN (oMore l) = nu l 1 / 16 := g1
      have x2 : halfN (oMany l) = nu l 1 % 16 := g2
      rw [x1, x2]; omega
    rw [e1]
    have f3 : oL3 l = oVal l ++ oLeft l := k3
    have f2 : oL2 l = halfS (oMany l) ++ oL3 l := k2
    have f1 : oL1 l = halfS (oMore l) ++ oL2 l := k1
    have f0 : l = numS (nu l 1) 1 ++ oL1 l := k0
    rw [← f3, ← f2, ← f1]
    exact f0
  · have y3 : (oLeft l).size + (oMany l).toNat = (oL3 l).size := z3
    have y2 : (oL3 l).size ≤ (oL2 l).size := z2
    have y1 : (oL2 l).size ≤ (oL1 l).size := z1
    have y0 : (oL1 l).size + 1 = l.size := z0
    omega

/-- options that were told are read -/
theorem opts_back {Y : ByteArray} (hY : ¬ (0 < Y.size ∧ bt Y 0 ≠ 255)) : ∀ (ol acc : List (Int × ByteArray)) (a : Int) (l : ByteArray) (f : Nat), l = optsS a ol ++ Y → optsE a ol = 0 → 0 ≤ a → acc.length + ol.length ≤ 12 → ol.length < f →
    rOpts f l false a acc = (acc ++ ol, Y, false) := by
  intro ol
  induction ol with
  | nil =>
    intro acc a l f hl _ _ _ hf
    rw [optsS, str_nil] at hl
    subst hl
    cases f with
    | zero => simp at hf
    | succ f => rw [rOpts, if_neg (fun h => hY h.2), List.append_nil]
  | cons o ol ih =>
    intro acc a l f hl hE h0 hn hf
    have hok := optsE_ok (o :: ol) a hE 0 (by simp)
    simp only [List.getElem_cons_zero, List.take_zero, lastN] at hok
    have hE' : optsE o.1 ol = 0 := by
      rw [optsE, if_neg (by omega), if_neg (by omega), if_neg (by omega)] at hE
      exact hE
    obtain ⟨f, rfl⟩ : ∃ g, f = g + 1 := ⟨f - 1, by simp at hf; omega⟩
    have hl1 : l = optS a o ++ (optsS o.1 ol ++ Y) := by rw [hl, optsS, mb_assoc]
    obtain ⟨p1, p2, p3, p4, p5, p6⟩ := o_back hl1 (by omega) (by omega) hok.2.2
    rw [rOpts, if_pos ⟨rfl, p1, p2⟩, p3, p4, p5, p6, show a + (o.1 - a) = o.1 by omega]
    rw [add13, if_pos (by simp at hn; omega)]
    rw [ih (acc ++ [(o.1, o.2)]) o.1 _ f rfl hE' (by omega) (by simp at hn ⊢; omega) (by simp at hf; omega)]
    simp
/-- options that were read stand there -/
theorem opts_forth : ∀ (f : Nat) (l : ByteArray) (bad : Bool) (a : Int) (acc L : List (Int × ByteArray)) (Y : ByteArray), rOpts f l bad a acc = (L, Y, false) → L.length ≤ 12 → (bad = true ∨ l.size < f) →
    bad = false ∧ ¬ (0 < Y.size ∧ bt Y 0 ≠ 255) ∧ ∃ ol, L = acc ++ ol ∧ l = optsS a ol ++ Y := by
  intro f
  induction f with
  | zero =>
    intro l bad a acc L Y h _ hf
    simp only [rOpts, Prod.mk.injEq] at h
    rcases hf with hf | hf
    · rw [h.2.2] at hf; simp at hf
    · omega
  | succ f ih =>
    intro l bad a acc L Y h hL hf
    rw [rOpts] at h
    split at h
    · rename_i hc
      have hcb := hc.1
      subst hcb
      have hfu : oBad l false = true ∨ (oLeft l).size < f := by
        cases hb : oBad l false with
        | true => exact .inl rfl
        | false =>
          right
          have := (o_forth (a := a) hb).2.2.1
          have : l.size < f + 1 := by simpa using hf
          omega
      obtain ⟨g1, g2, ol, g3, g4⟩ := ih _ _ _ _ _ _ h hL hfu
      have hle : acc.length ≤ 12 := by
        rcases Nat.lt_or_ge 12 acc.length with hx | hx
        · rw [g3, List.length_append, add13, if_neg (by omega)] at hL; omega
        · exact hx
      rw [add13, if_pos hle] at g3
      refine ⟨rfl, g2, (a + oMore l, oVal l) :: ol, by rw [g3]; simp, ?_⟩
      rw [optsS, mb_assoc, ← g4]
      exact (o_forth (a := a) g1).2.1
    · rename_i hc
      simp only [Prod.mk.injEq] at h
      obtain ⟨rfl, rfl, rfl⟩ := h
      exact ⟨rfl, fun x => hc ⟨rfl, x⟩, [], by simp, by rw [optsS, str_nil]⟩

theorem nil_of_size {p : ByteArray} (e : p.size = 0) : p = ⟨#[]⟩ := by
  apply ByteArray.ext; apply Array.toList_inj.1
  have h : p.data.toList.length = 0 := by simpa using e
  exact List.length_eq_zero_iff.1 h
theorem payl_stop (p : ByteArray) : ¬ (0 < (paylS p).size ∧ bt (paylS p) 0 ≠ 255) := by
  unfold paylS
  split
  · intro h; exact absurd h.1 (by decide)
  · intro h
    obtain ⟨n1, _, _⟩ := nu_back (l := numS 255 1 ++ p) (y := p) (v := 255) (k := 1) rfl (.inl rfl) (by decide) (by decide) false
    exact h.2 (by rw [bt_nu]; exact n1)
theorem payl_back (p : ByteArray) : plV (paylS p) = p ∧ plB (paylS p) false = false := by
  unfold paylS
  split
  · rename_i h; subst h; exact ⟨rfl, rfl⟩
  · rename_i h
    obtain ⟨_, n2, _⟩ := nu_back (l := numS 255 1 ++ p) (y := p) (v := 255) (k := 1) rfl (.inl rfl) (by decide) (by decide) false
    have hz := numS_size (nuE (v := 255) (k := 1) (.inl rfl) (by decide) (by decide))
    simp at hz
    have hp : p.size ≠ 0 := fun e => h (nil_of_size e)
    constructor
    · rw [plV, if_neg (by rw [ByteArray.size_append]; omega)]; exact n2
    · rw [plB, decide_eq_false (by rw [ByteArray.size_append]; omega)]; rfl
theorem payl_forth {l : ByteArray} {bad : Bool} (h : plB l bad = false) (hs : ¬ (0 < l.size ∧ bt l 0 ≠ 255)) : bad = false ∧ l = paylS (plV l) := by
  simp only [plB, Bool.or_eq_false_iff, decide_eq_false_iff_not] at h
  refine ⟨h.1, ?_⟩
  rw [plV]
  split
  · rename_i e
    have := nil_of_size e
    subst this; rfl
  · rename_i e
    have hb : bt l 0 = 255 := Decidable.not_not.1 fun x => hs ⟨by omega, x⟩
    have hf : tkB l 1 false = false := by rw [tkB, decide_eq_false (by omega)]; rfl
    obtain ⟨_, g2, _, _, g5⟩ := nu_forth (.inl rfl) hf
    rw [paylS, if_neg (fun x => by rw [x] at g5; have : (⟨#[]⟩ : ByteArray).size = 0 := rfl; omega)]
    rw [← bt_nu, hb] at g2
    exact g2

theorem opts_len (l : List (Int × ByteArray)) : ∀ a, optsE a l = 0 → l.length ≤ (optsS a l).size := by
  induction l with
  | nil => intro a _; exact Nat.zero_le _
  | cons o l ih =>
    intro a h
    have hok := optsE_ok (o :: l) a h 0 (by simp)
    simp only [List.getElem_cons_zero, List.take_zero, lastN] at hok
    rw [optsE, if_neg (by omega), if_neg (by omega), if_neg (by omega)] at h
    have h1 := ih o.1 h
    have h2 := head_size (more := o.1 - a) (many := (o.2.size : Int)) (by omega) (by omega)
    simp only [optsS, optS, ByteArray.size_append, List.length_cons]
    omega

/-- WHAT IS ENCODED IS DECODED AS IT WAS -/
theorem mdec_enc {m : Mg} (h : chkM m = 0) : decM (encM m) = m ∧ decME (encM m) = 0 := by
  have hok := chkM_ok h
  obtain ⟨hk, hc, hi, ht, ho, hp, hE⟩ := hok
  have hl0 : encM m = numS (64 + m.kind * 16 + m.token.size) 1 ++ (numS m.code 1 ++ (numS m.id 2 ++ (m.token ++ (optsS 0 m.opts ++ paylS m.payload)))) := by
    rw [encM]; simp only [mb_assoc]
  obtain ⟨a1, a2, a3⟩ := nu_back (k := 1) hl0 (.inl rfl) (by omega) (by simp; omega) false
  obtain ⟨b1, b2, b3⟩ := nu_back (k := 1) a2 (.inl rfl) (by omega) (by simp; omega) false
  obtain ⟨c1, c2, c3⟩ := nu_back (k := 2) b2 (.inr rfl) (by omega) (by simp; omega) false
  have tt : (nu (encM m) 1 % 16).toNat = m.token.size := by rw [a1]; omega
  obtain ⟨d1, d2, d3⟩ := tk_two c2 (k := (nu (encM m) 1 % 16).toNat) tt false
  have hf : fstB (nu (encM m) 1) = true := by
    rw [a1, fstB, decide_eq_true (by omega), decide_eq_true (by omega), decide_eq_true (by omega)]; rfl
  have hB4 : mB4 (encM m) = false := by
    unfold mB4 mL3 mL2 mL1
    rw [a3, b3, c3]; exact d3
  have hL4 : mL4 (encM m) = optsS 0 m.opts ++ paylS m.payload := d2
  have hO : mO (encM m) = (m.opts, paylS m.payload, false) := by
    unfold mO
    rw [hB4, opts_back (payl_stop m.payload) m.opts [] 0 _ _ hL4 hE (by omega) (by simp; omega) (by
      have := opts_len m.opts 0 hE
      rw [hL4, ByteArray.size_append]; omega)]
    simp
  have hP := payl_back m.payload
  have hr : rdM (encM m) = m := by
    unfold rdM
    rw [if_pos hf, hO]
    simp only
    rw [hP.1]
    unfold mL3 mL2 mL1
    rw [b1, c1, d1, a1, show (64 + m.kind * 16 + (m.token.size : Int) - 64) / 16 = m.kind by omega]
  have hrb : rdMB (encM m) = true := by
    unfold rdMB
    rw [hf, hO]
    simp only
    rw [hP.2]; rfl
  have e : decME (encM m) = 0 := by unfold decME; rw [if_neg (by simp [hrb]), hr, h]
  exact ⟨by unfold decM; rw [if_pos e, hr], e⟩

/-- .. AND NOTHING ELSE IS -/
theorem menc_dec {s : ByteArray} (h : decME s = 0) : chkM (decM s) = 0 ∧ encM (decM s) = s := by
  have hd : decM s = rdM s := by unfold decM; rw [if_pos h]
  unfold decME at h
  cases hr : rdMB s with
  | false => rw [if_pos hr] at h; simp at h
  | true =>
    rw [if_neg (by simp [hr])] at h
    rw [hd]
    refine ⟨h, ?_⟩
    simp only [rdMB, Bool.and_eq_true, Bool.not_eq_true'] at hr
    obtain ⟨hf, hpb⟩ := hr
    have hm : rdM s = ⟨(nu s 1 - 64) / 16, nu (mL1 s) 1, nu (mL2 s) 2, tk (mL3 s) (nu s 1 % 16).toNat, (mO s).1, plV (mO s).2.1⟩ := by unfold rdM; rw [if_pos hf]
    have hok := chkM_ok h
    rw [hm] at hok ⊢
    simp only at hok
    obtain ⟨L, Y, bd, hO⟩ : ∃ L Y bd, mO s = (L, Y, bd) := ⟨_, _, _, rfl⟩
    rw [hO] at hpb hok ⊢
    simp only at hpb hok ⊢
    have hbd : bd = false := by simp only [plB, Bool.or_eq_false_iff] at hpb; exact hpb.1
    subst hbd
    obtain ⟨g1, g2, ol, g3, g4⟩ := opts_forth _ _ _ _ _ _ _ (show rOpts ((mL4 s).size + 1) (mL4 s) (mB4 s) 0 [] = (L, Y, false) from hO) hok.2.2.2.2.1 (.inr (by omega))
    rw [List.nil_append] at g3
    obtain ⟨_, g5⟩ := payl_forth hpb g2
    obtain ⟨t3, k3, z3, _⟩ := tk_forth g1
    obtain ⟨t2, k2, _, _, _⟩ := nu_forth (.inr rfl) t3
    obtain ⟨t1, k1, _, _, _⟩ := nu_forth (.inl rfl) t2
    obtain ⟨_, k0, _, _, _⟩ := nu_forth (.inl rfl) t1
    simp only [fstB, Bool.and_eq_true, decide_eq_true_eq] at hf
    have e1 : 64 + (nu s 1 - 64) / 16 * 16 + ((tk (mL3 s) (nu s 1 % 16).toNat).size : Int) = nu s 1 := by rw [z3]; omega
    rw [encM]
    simp only
    rw [e1, g3, ← g5]
    simp only [mb_assoc]
    rw [← g4]
    have f3 : tk (mL3 s) (nu s 1 % 16).toNat ++ mL4 s = mL3 s := k3.symm
    have f2 : numS (nu (mL2 s) 2) 2 ++ mL3 s = mL2 s := k2.symm
    have f1 : numS (nu (mL1 s) 1) 1 ++ mL2 s = mL1 s := k1.symm
    have f0 : numS (nu s 1) 1 ++ mL1 s = s := k0.symm
    rw [f3, f2, f1, f0]
end Go.Proofs.Ytedlebkpdejhiac
