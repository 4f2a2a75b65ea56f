/-
  Messages out of bytes as the reference reads them, place by place, and what the program reads: the same: plain facts.
-/
import Derived.Test.YtedlebkpdejhiacMsgBack
import Derived.Test.YtedlebkpdejhiacMsgOpts
namespace Go.Proofs.Ytedlebkpdejhiac
open Go.RowKit Go.PlainAid

/-- the options, all of them, and the payload; none, if something in the bytes can't be -/
def xOpts : Nat → ByteArray → Int → List (Int × ByteArray) → Option (List (Int × ByteArray) × ByteArray)
  | 0, _, _, _ => none
  | f + 1, l, a, acc => if l.size = 0 then some (acc, ⟨#[]⟩) else if bt l 0 = 255 then (if l.size = 1 then none else some (acc, tkL l 1)) else if oBad l false = true then none else xOpts f (oLeft l) (a + oMore l) (acc ++ [(a + oMore l, oVal l)])

theorem rOpts_bad : ∀ (f : Nat) (l : ByteArray) (a : Int) (acc : List (Int × ByteArray)), rOpts f l true a acc = (acc, l, true) := by
  intro f l a acc
  cases f with
  | zero => rfl
  | succ f => rw [rOpts, if_neg (by simp)]
theorem add13_take (acc : List (Int × ByteArray)) (x : Int × ByteArray) : add13 (acc.take 13) x = (acc ++ [x]).take 13 := by
  unfold add13
  by_cases h : acc.length ≤ 12
  · rw [List.take_of_length_le (l := acc) (by omega), if_pos h, List.take_of_length_le (by simp; omega)]
  · rw [if_neg (by rw [List.length_take]; omega), List.take_append_of_le_length (by omega)]
theorem x_r : ∀ (f : Nat) (l : ByteArray) (a : Int) (acc : List (Int × ByteArray)), l.size < f →
    (∀ L P, xOpts f l a acc = some (L, P) → ∃ Y, rOpts f l false a (acc.take 13) = (L.take 13, Y, false) ∧ plV Y = P ∧ plB Y false = false) ∧
    (xOpts f l a acc = none → plB (rOpts f l false a (acc.take 13)).2.1 (rOpts f l false a (acc.take 13)).2.2 = true) := by
  intro f
  induction f with
  | zero => intro l a acc h; omega
  | succ f ih =>
    intro l a acc hf
    by_cases h0 : l.size = 0
    · have hr : rOpts (f + 1) l false a (acc.take 13) = (acc.take 13, l, false) := by rw [rOpts, if_neg (by omega)]
      have hx : xOpts (f + 1) l a acc = some (acc, ⟨#[]⟩) := by rw [xOpts, if_pos h0]
      rw [hr, hx]
      refine ⟨fun L P h => ?_, fun h => by simp at h⟩
      simp only [Option.some.injEq, Prod.mk.injEq] at h
      obtain ⟨rfl, rfl⟩ := h
      exact ⟨l, rfl, by rw [plV, if_pos h0], by rw [plB, decide_eq_false (by omega)]; rfl⟩
    · by_cases h255 : bt l 0 = 255
      · have hr : rOpts (f + 1) l false a (acc.take 13) = (acc.take 13, l, false) := by rw [rOpts, if_neg (fun h => h.2.2 h255)]
        by_cases h1 : l.size = 1
        · have hx : xOpts (f + 1) l a acc = none := by rw [xOpts, if_neg h0, if_pos h255, if_pos h1]
          rw [hr, hx]
          exact ⟨fun L P h => by simp at h, fun _ => by simp [plB, h1]⟩
        · have hx : xOpts (f + 1) l a acc = some (acc, tkL l 1) := by rw [xOpts, if_neg h0, if_pos h255, if_neg h1]
          rw [hr, hx]
          refine ⟨fun L P h => ?_, fun h => by simp at h⟩
          simp only [Option.some.injEq, Prod.mk.injEq] at h
          obtain ⟨rfl, rfl⟩ := h
          exact ⟨l, rfl, by rw [plV, if_neg h0], by rw [plB, decide_eq_false h1]; rfl⟩
      · have hr : rOpts (f + 1) l false a (acc.take 13) = rOpts f (oLeft l) (oBad l false) (a + oMore l) ((acc ++ [(a + oMore l, oVal l)]).take 13) := by
          rw [rOpts, if_pos ⟨rfl, by omega, h255⟩, add13_take]
        cases hb : oBad l false with
        | true =>
          have hx : xOpts (f + 1) l a acc = none := by rw [xOpts, if_neg h0, if_neg h255, if_pos hb]
          rw [hr, hx, hb, rOpts_bad]
          exact ⟨fun L P h => by simp at h, fun _ => by simp [plB]⟩
        | false =>
          have hx : xOpts (f + 1) l a acc = xOpts f (oLeft l) (a + oMore l) (acc ++ [(a + oMore l, oVal l)]) := by rw [xOpts, if_neg h0, if_neg h255, if_neg (by simp [hb])]
          rw [hr, hx, hb]
          have hlt := (o_range l (by omega)).2.2.1
          exact ih _ _ _ (by omega)

/-- the message that has just these bytes, as the reference reads it -/
def ofM (s : ByteArray) : Option Mg :=
  if fstB (nu s 1) = true ∧ mB4 s = false then (xOpts ((mL4 s).size + 1) (mL4 s) 0 []).map fun r => ⟨(nu s 1 - 64) / 16, nu (mL1 s) 1, nu (mL2 s) 2, tk (mL3 s) (nu s 1 % 16).toNat, r.1, r.2⟩ else none
/-- what the reference's MessageOf answers -/
def ofE (s : ByteArray) : Int := match ofM s with | none => 1 | some m => chkM m

theorem read_nums (s : ByteArray) : (0 ≤ nu (mL1 s) 1 ∧ nu (mL1 s) 1 ≤ 255) ∧ (0 ≤ nu (mL2 s) 2 ∧ nu (mL2 s) 2 ≤ 65535) := by
  have h1 := nu_range (mL1 s) 1
  have h2 := nu_range (mL2 s) 2
  simp only [Int.reducePow] at h1 h2
  omega
/-- the reference and the program read the same -/
theorem of_dec (s : ByteArray) : ofE s = decME s ∧ (decME s = 0 → ofM s = some (decM s)) := by
  have hnn := nu_range s 1
  simp only [Int.reducePow] at hnn
  by_cases hc : fstB (nu s 1) = true ∧ mB4 s = false
  · obtain ⟨hf, hb⟩ := hc
    obtain ⟨x1, x2⟩ := x_r ((mL4 s).size + 1) (mL4 s) 0 [] (by omega)
    rw [List.take_nil] at x1 x2
    have hmO : mO s = rOpts ((mL4 s).size + 1) (mL4 s) false 0 [] := by unfold mO; rw [hb]
    cases hx : xOpts ((mL4 s).size + 1) (mL4 s) 0 [] with
    | none =>
      have hof : ofM s = none := by unfold ofM; rw [if_pos ⟨hf, hb⟩, hx]; rfl
      have hp := x2 hx
      rw [← hmO] at hp
      have hr : rdMB s = false := by unfold rdMB; rw [hp]; simp
      have hd : decME s = 1 := by unfold decME; rw [if_pos hr]
      refine ⟨by unfold ofE; rw [hof, hd], fun h => by rw [hd] at h; simp at h⟩
    | some r =>
      obtain ⟨L, P⟩ := r
      obtain ⟨Y, y1, y2, y3⟩ := x1 L P hx
      rw [← hmO] at y1
      have hof : ofM s = some ⟨(nu s 1 - 64) / 16, nu (mL1 s) 1, nu (mL2 s) 2, tk (mL3 s) (nu s 1 % 16).toNat, L, P⟩ := by unfold ofM; rw [if_pos ⟨hf, hb⟩, hx]; rfl
      have hr : rdMB s = true := by unfold rdMB; rw [hf, y1]; simp [y3]
      have hrd : rdM s = ⟨(nu s 1 - 64) / 16, nu (mL1 s) 1, nu (mL2 s) 2, tk (mL3 s) (nu s 1 % 16).toNat, L.take 13, P⟩ := by unfold rdM; rw [if_pos hf, y1]; simp only [y2]
      have hd : decME s = chkM (rdM s) := by unfold decME; rw [if_neg (by simp [hr])]
      have he : ofE s = chkM ⟨(nu s 1 - 64) / 16, nu (mL1 s) 1, nu (mL2 s) 2, tk (mL3 s) (nu s 1 % 16).toNat, L, P⟩ := by unfold ofE; rw [hof]
      by_cases hL : L.length ≤ 12
      · have ht : L.take 13 = L := List.take_of_length_le (by omega)
        rw [ht] at hrd
        refine ⟨by rw [he, hd, hrd], fun h => ?_⟩
        rw [hof]; unfold decM; rw [if_pos h, hrd]
      · have hn := read_nums s
        simp only [fstB, Bool.and_eq_true, decide_eq_true_eq] at hf
        have e1 : ∀ Q : List (Int × ByteArray), 12 < Q.length → chkM ⟨(nu s 1 - 64) / 16, nu (mL1 s) 1, nu (mL2 s) 2, tk (mL3 s) (nu s 1 % 16).toNat, Q, P⟩ = 2 := fun Q hQ => by
          unfold chkM
          simp only
          rw [if_neg (by omega), if_neg (by omega), if_pos (.inr (.inl hQ))]
        have hlt : 12 < (L.take 13).length := by rw [List.length_take]; omega
        have hd2 : decME s = 2 := by rw [hd, hrd]; exact e1 _ hlt
        exact ⟨by rw [he, hd2]; exact e1 L (by omega), fun h => by rw [hd2] at h; simp at h⟩
  · have hof : ofM s = none := by unfold ofM; rw [if_neg hc]
    have hr : rdMB s = false := by
      cases hf : fstB (nu s 1) with
      | false => unfold rdMB; rw [hf]; rfl
      | true =>
        have hb : mB4 s = true := by
          cases hb : mB4 s with
          | true => rfl
          | false => exact absurd ⟨hf, hb⟩ hc
        unfold rdMB mO
        rw [hb, rOpts_bad]
        simp [plB]
    have hd : decME s = 1 := by unfold decME; rw [if_pos hr]
    exact ⟨by unfold ofE; rw [hof, hd], fun h => by rw [hd] at h; simp at h⟩
end Go.Proofs.Ytedlebkpdejhiac
