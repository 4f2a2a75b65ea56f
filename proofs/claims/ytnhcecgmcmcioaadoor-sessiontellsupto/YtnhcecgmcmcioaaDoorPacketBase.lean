/-
  Packets, as plain data: what they are, what is wrong with one (no program in it).
-/
import Derived.Test.YtnhcecgmcmcioaaDoorWireMath
import Derived.Test.YtnhcecgmcmcioaaDoorTopicMath
import Derived.Test.YtnhcecgmcmcioaaDoorRows
import Derived.WalkKit
import Derived.ProofKit
import Derived.WalkSpells
import Derived.WalkLawsBesides
import Derived.Handy
namespace Go.Proofs.YtnhcecgmcmcioaaDoor
open Go.RowKit Go.PlainAid

/-- a packet -/
structure Pk where
  kind : Int
  dup : Bool
  retain : Bool
  clean : Bool
  session : Bool
  qos : Int
  id : Int
  keep : Int
  code : Int
  client : ByteArray
  topic : ByteArray
  payload : ByteArray
  asks : List (ByteArray × Int)
  codes : List Int

/-- its value: the two lists lie where their addresses say -/
def pkV (p : Pk) (aa : Option Addr) (ca : Nat) (ac : Option Addr) (cc : Nat) : Value :=
  .agg #[.int .i64 p.kind, .bool p.dup, .bool p.retain, .bool p.clean, .bool p.session, .int .i64 p.qos, .int .i64 p.id, .int .i64 p.keep, .int .i64 p.code,
    .string p.client, .string p.topic, .string p.payload, .slice aa p.asks.length ca, .slice ac p.codes.length cc]

/-- asks lie there -/
def AsksIn (w : World) (aa : Option Addr) (l : List (ByteArray × Int)) : Prop :=
  l = [] ∨ ∃ b o, aa = some ⟨b, o, none⟩ ∧ b < w.heap.size ∧ ∀ i (h : i < l.length), w.cell? ⟨b, o + i * 2, none⟩ = some (.string l[i].1) ∧ w.cell? ⟨b, o + i * 2 + 1, none⟩ = some (.int .i64 l[i].2)
/-- numbers lie there -/
def IntsIn (w : World) (ac : Option Addr) (l : List Int) : Prop :=
  l = [] ∨ ∃ b o, ac = some ⟨b, o, none⟩ ∧ b < w.heap.size ∧ ∀ i (h : i < l.length), w.cell? ⟨b, o + i, none⟩ = some (.int .i64 l[i])

theorem AsksIn.below {w w' : World} {aa : Option Addr} {l : List (ByteArray × Int)} (h : AsksIn w aa l) (hb : Below w.heap.size w w') : AsksIn w' aa l := by
  rcases h with h | ⟨b, o, ha, hl, hc⟩
  · exact .inl h
  · exact .inr ⟨b, o, ha, Nat.lt_of_lt_of_le hl hb.size, fun i hi => ⟨(hb.cell (p := ⟨b, _, none⟩) hl).trans (hc i hi).1, (hb.cell (p := ⟨b, _, none⟩) hl).trans (hc i hi).2⟩⟩
theorem IntsIn.below {w w' : World} {ac : Option Addr} {l : List Int} (h : IntsIn w ac l) (hb : Below w.heap.size w w') : IntsIn w' ac l := by
  rcases h with h | ⟨b, o, ha, hl, hc⟩
  · exact .inl h
  · exact .inr ⟨b, o, ha, Nat.lt_of_lt_of_le hl hb.size, fun i hi => (hb.cell (p := ⟨b, _, none⟩) hl).trans (hc i hi)⟩
theorem AsksIn.alloc {w : World} {aa : Option Addr} {l : List (ByteArray × Int)} (h : AsksIn w aa l) (o : Obj) : AsksIn (w.alloc o) aa l := h.below ((Below.refl _ w).alloc (Nat.le_refl _) o)
theorem IntsIn.alloc {w : World} {aa : Option Addr} {l : List Int} (h : IntsIn w aa l) (o : Obj) : IntsIn (w.alloc o) aa l := h.below ((Below.refl _ w).alloc (Nat.le_refl _) o)

/-- is it one of the kinds? -/
def kindB (k : Int) : Bool := decide (1 ≤ k ∧ k ≤ 4 ∨ 8 ≤ k ∧ k ≤ 14)

/-- without what its kind names -/
def wn (p : Pk) : Pk :=
  if p.kind = 1 then { p with client := ⟨#[]⟩, clean := false, keep := 0 }
  else if p.kind = 2 then { p with code := 0, session := false }
  else if p.kind = 3 then { p with dup := false, qos := 0, retain := false, topic := ⟨#[]⟩, payload := ⟨#[]⟩, id := 0 }
  else if p.kind = 4 ∨ p.kind = 11 then { p with id := 0 }
  else if p.kind = 8 ∨ p.kind = 10 then { p with id := 0, asks := [] }
  else if p.kind = 9 then { p with id := 0, codes := [] }
  else p

/-- is there nothing but the kind? -/
def bareB (p : Pk) : Bool :=
  !(p.dup || p.retain || p.clean || p.session) && !(p.qos != 0 || p.id != 0 || p.keep != 0 || p.code != 0) && !(!decide (p.client = ⟨#[]⟩) || !decide (p.topic = ⟨#[]⟩) || !decide (p.payload = ⟨#[]⟩)) && !(decide (0 < p.asks.length) || decide (0 < p.codes.length))

/-- signs that may be seen, all of them -/
def visTo (s : ByteArray) : Nat → Bool
  | 0 => true
  | k + 1 => visTo s k && decide (33 ≤ bt s k) && decide (bt s k ≤ 126)
def nameB (s : ByteArray) : Bool := visTo s s.size && decide (0 < s.size)

theorem visTo_le (s : ByteArray) {j k : Nat} (h : j ≤ k) (hk : visTo s k = true) : visTo s j = true := by
  induction k with
  | zero => have : j = 0 := by omega
            subst this; rfl
  | succ k ih =>
    simp only [visTo, Bool.and_eq_true] at hk
    by_cases e : j = k + 1
    · subst e; simp [visTo, hk]
    · exact ih (by omega) hk.1.1
theorem nameB_no {s : ByteArray} {k : Nat} (h : k < s.size) (hc : ¬ (33 ≤ bt s k ∧ bt s k ≤ 126)) : nameB s = false := by
  unfold nameB
  cases hv : visTo s s.size with
  | false => rfl
  | true =>
    have := visTo_le s (show k + 1 ≤ s.size by omega) hv
    simp only [visTo, Bool.and_eq_true, decide_eq_true_eq] at this
    exact absurd ⟨this.1.2, this.2⟩ hc

/-- a mark, if it is so -/
def flagN (b : Bool) (n : Int) : Int := cond b n 0
def idE (n : Int) : Int := if n < 1 ∨ 65535 < n then 3 else 0
def qosB (n : Int) : Bool := n == 0 || n == 1
def countE (n : Nat) : Int := if n = 0 then 1 else if 5 < n then 2 else 0
/-- one ask -/
def askE (kind : Int) (a : ByteArray × Int) : Int := if chk filtF a.1 ≠ 0 then chk filtF a.1 else if kind = 10 ∧ a.2 ≠ 0 then 1 else if ¬ (a.2 = 0 ∨ a.2 = 1) then 3 else 0
/-- the first of several that has an error -/
def firstE {α : Type} (f : α → Int) : List α → Int
  | [] => 0
  | a :: l => if f a ≠ 0 then f a else firstE f l
def codeE (c : Int) : Int := if c = 0 ∨ c = 1 ∨ c = 128 then 0 else 3
def asksE (p : Pk) : Int := if countE p.asks.length ≠ 0 then countE p.asks.length else firstE (askE p.kind) p.asks
def codesE (l : List Int) : Int := if countE l.length ≠ 0 then countE l.length else firstE codeE l
def connectE (p : Pk) : Int := if 20 < p.client.size then 2 else if nameB p.client = false then 1 else if p.keep < 0 ∨ 65535 < p.keep then 3 else 0
def connackE (p : Pk) : Int := if p.code < 0 ∨ 5 < p.code then 3 else if p.session = true ∧ p.code ≠ 0 then 4 else 0
def publishE (p : Pk) : Int :=
  if chk nameF p.topic ≠ 0 then chk nameF p.topic else if 200 < p.payload.size then 2 else if ¬ (p.qos = 0 ∨ p.qos = 1) then 3 else if p.qos = 1 then idE p.id else if p.dup = true ∨ p.id ≠ 0 then 1 else 0
def withIdE (p : Pk) : Int := if idE p.id ≠ 0 then idE p.id else if p.kind = 8 ∨ p.kind = 10 then asksE p else if p.kind = 9 then codesE p.codes else 0
/-- what is wrong with a packet -/
def chkP (p : Pk) : Int :=
  if kindB p.kind = false then 7 else if bareB (wn p) = false then 1
  else if p.kind = 1 then connectE p else if p.kind = 2 then connackE p else if p.kind = 3 then publishE p
  else if p.kind = 12 ∨ p.kind = 13 ∨ p.kind = 14 then 0 else withIdE p
end Go.Proofs.YtnhcecgmcmcioaaDoor
/-
  The small functions of package packet: isKind, isQos, checkId, checkCount, isName, flag: what they answer.
-/
namespace Go.Proofs.YtnhcecgmcmcioaaDoor
open Go.RowKit Go.PlainAid

set_option maxHeartbeats 1000000 in
theorem isKind_any (k : Int) (w : World) :
    Calls Tryd.prog 58 #[.int .i64 k] w fun e w' => e = .returned (.bool (kindB k)) ∧ w' = w := by
  go_enter Tryd.func58, Tryd.ntmps58
  go_wp2
  all_goals
    go_ret
    refine ⟨congrArg (fun b => Ending.returned (.bool b)) ?_, rfl⟩
    simp only [kindB, beq_iff_eq, beq_eq_false_iff_ne] at *
    first
      | (symm; rw [decide_eq_true_eq]; omega)
      | (symm; rw [decide_eq_false_iff_not]; omega)

theorem isQos_any (n : Int) (w : World) :
    Calls Tryd.prog 71 #[.int .i64 n] w fun e w' => e = .returned (.bool (qosB n)) ∧ w' = w := by
  by_cases h : n = 0
  · subst h
    go_enter Tryd.func71, Tryd.ntmps71
    go_wp2
    go_ret
    exact ⟨rfl, rfl⟩
  · have h1 : (n == 0) = false := by simp [h]
    have H := hide h
    clear h
    go_enter Tryd.func71, Tryd.ntmps71
    go_wp2
    go_ret
    exact ⟨by simp [qosB, H.out], rfl⟩

theorem checkId_any (n : Int) (w : World) :
    Calls Tryd.prog 72 #[.int .i64 n] w fun e w' => e = .returned (.int .i64 (idE n)) ∧ w' = w := by
  by_cases h : n < 1
  · go_enter Tryd.func72, Tryd.ntmps72
    go_wp2
    go_ret
    exact ⟨by rw [show idE n = _ from if_pos (.inl h)]; rfl, rfl⟩
  · have h1 : decide (n < 1) = false := by simpa using h
    by_cases h2 : 65535 < n
    · go_enter Tryd.func72, Tryd.ntmps72
      go_wp2
      go_ret
      exact ⟨by rw [show idE n = _ from if_pos (.inr h2)]; rfl, rfl⟩
    · have h3 : decide (65535 < n) = false := by simpa using h2
      go_enter Tryd.func72, Tryd.ntmps72
      go_wp2
      go_ret
      exact ⟨by rw [show idE n = _ from if_neg (by omega)]; rfl, rfl⟩

theorem checkCount_any (n : Nat) (w : World) :
    Calls Tryd.prog 76 #[.int .i64 n] w fun e w' => e = .returned (.int .i64 (countE n)) ∧ w' = w := by
  by_cases h : n = 0
  · subst h
    go_enter Tryd.func76, Tryd.ntmps76
    go_wp2
    go_ret
    exact ⟨rfl, rfl⟩
  · have h1 : ((n : Int) == 0) = false := by simp [h]
    have H := hide h
    clear h
    by_cases h2 : 5 < (n : Int)
    · go_enter Tryd.func76, Tryd.ntmps76
      go_wp2
      go_ret
      exact ⟨by rw [show countE n = _ from if_neg H.out, if_pos (by omega)]; rfl, rfl⟩
    · go_enter Tryd.func76, Tryd.ntmps76
      go_wp2
      go_ret
      exact ⟨by rw [show countE n = _ from if_neg H.out, if_neg (by omega)]; rfl, rfl⟩

set_option maxHeartbeats 1000000 in
theorem isName_any (s : ByteArray) (w : World) (hs : s.size ≤ maxLen) :
    Calls Tryd.prog 70 #[.string s] w fun e w' => e = .returned (.bool (nameB s)) ∧ w' = w := by
  unfold maxLen at hs
  have hbt := get_bt s
  go_enter Tryd.func70, Tryd.ntmps70
  go_wp2
  go_loop [3] (fun i => ∃ k : Nat, k ≤ s.size ∧ i = .int .i64 k ∧ Hid (visTo s k = true)) (fun i => s.size - (intOf i).toNat)
  case atStart => exact ⟨0, Nat.zero_le _, rfl, rfl⟩
  case round =>
    obtain ⟨k, hk, rfl, HP⟩ := hrel
    have hb0 := bt_nonneg s k
    have hb1 := bt_le s k
    by_cases hlt : k < s.size
    · by_cases h1 : bt s k < 33
      · have HR := hide (nameB_no hlt (show ¬ (33 ≤ bt s k ∧ bt s k ≤ 126) by omega))
        go_wp2
        go_ret
        exact ⟨by rw [HR.out]; rfl, rfl⟩
      · have h1' : decide (bt s k < 33) = false := by simp; omega
        by_cases h2 : 126 < bt s k
        · have HR := hide (nameB_no hlt (show ¬ (33 ≤ bt s k ∧ bt s k ≤ 126) by omega))
          go_wp2
          go_ret
          exact ⟨by rw [HR.out]; rfl, rfl⟩
        · have h2' : decide (126 < bt s k) = false := by simp; omega
          have HR : Hid (visTo s (k + 1) = true) := by
            show visTo s (k + 1) = true
            simp only [visTo, Bool.and_eq_true, decide_eq_true_eq]
            exact ⟨⟨HP.out, by omega⟩, by omega⟩
          go_wp2
          go_round
          case rel => exact ⟨k + 1, by omega, by go_num, HR⟩
          case measure => simp [intOf]; omega
    · have hke : k = s.size := by omega
      subst hke
      clear hbt
      by_cases h0 : s = ⟨#[]⟩
      · subst h0
        go_wp2
        go_ret
        exact ⟨rfl, rfl⟩
      · have hp : 0 < s.size := by
          rcases Nat.eq_zero_or_pos s.size with h | h
          · exact absurd (ByteArray.ext (Array.eq_empty_of_size_eq_zero h)) h0
          · exact h
        have HN : Hid (nameB s = true) := by
          show nameB s = true
          simp [nameB, HP.out, hp]
        go_wp2
        go_ret
        exact ⟨by rw [HN.out]; simp; simpa using txt_no (l := []) h0, rfl⟩
end Go.Proofs.YtnhcecgmcmcioaaDoor
