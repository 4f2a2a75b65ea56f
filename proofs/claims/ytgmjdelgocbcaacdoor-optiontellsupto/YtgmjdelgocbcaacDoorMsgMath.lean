/-
  Messages, as plain data: what they are, what is wrong with one, its bytes, what bytes tell (no program in it).
-/
import Derived.Test.YtgmjdelgocbcaacDoorWireMath
namespace Go.Proofs.YtgmjdelgocbcaacDoor
open Go.RowKit Go.PlainAid

/-- a message -/
structure Mg where
  kind : Int
  code : Int
  id : Int
  token : ByteArray
  opts : List (Int × ByteArray)
  payload : ByteArray

/-- its value: the options lie where their address says -/
def mgV (m : Mg) (ao : Option Addr) (co : Nat) : Value :=
  .agg #[.int .i64 m.kind, .int .i64 m.code, .int .i64 m.id, .string m.token, .slice ao m.opts.length co, .string m.payload]

/-- options lie there -/
def OptsIn (w : World) (ao : Option Addr) (l : List (Int × ByteArray)) : Prop :=
  l = [] ∨ ∃ b o, ao = some ⟨b, o, none⟩ ∧ b < w.heap.size ∧ ∀ i (h : i < l.length), w.cell? ⟨b, o + i * 2, none⟩ = some (.int .i64 l[i].1) ∧ w.cell? ⟨b, o + i * 2 + 1, none⟩ = some (.string l[i].2)

theorem OptsIn.below {w w' : World} {ao : Option Addr} {l : List (Int × ByteArray)} (h : OptsIn w ao l) (hb : Below w.heap.size w w') : OptsIn w' ao l := by
  rcases h with h | ⟨b, o, ha, hl, hc⟩
  · exact .inl h
  · exact .inr ⟨b, o, ha, Nat.lt_of_lt_of_le hl hb.size, fun i hi => ⟨(hb.cell (p := ⟨b, _, none⟩) hl).trans (hc i hi).1, (hb.cell (p := ⟨b, _, none⟩) hl).trans (hc i hi).2⟩⟩
theorem OptsIn.alloc {w : World} {ao : Option Addr} {l : List (Int × ByteArray)} (h : OptsIn w ao l) (o : Obj) : OptsIn (w.alloc o) ao l := h.below ((Below.refl _ w).alloc (Nat.le_refl _) o)

/-- the first of the options that has an error: ahead of them stood one of that number -/
def optsE : Int → List (Int × ByteArray) → Int
  | _, [] => 0
  | a, o :: l => if o.1 < 0 ∨ 65535 < o.1 then 3 else if o.1 < a then 4 else if 60 < o.2.size then 2 else optsE o.1 l
/-- the number of the last one -/
def lastN : Int → List (Int × ByteArray) → Int
  | a, [] => a
  | _, o :: l => lastN o.1 l
/-- is there nothing behind the Id? -/
def bareM (m : Mg) : Bool := decide (m.token = ⟨#[]⟩) && decide (m.opts.length = 0) && decide (m.payload = ⟨#[]⟩)
/-- what is wrong with a message -/
def chkM (m : Mg) : Int :=
  if m.kind < 0 ∨ 3 < m.kind then 7 else if m.code < 0 ∨ 255 < m.code ∨ m.id < 0 ∨ 65535 < m.id then 3
  else if 8 < m.token.size ∨ 12 < m.opts.length ∨ 200 < m.payload.size then 2
  else if optsE 0 m.opts ≠ 0 then optsE 0 m.opts else if m.code = 0 ∧ bareM m = false then 1 else 0

/-- the half that tells a number -/
def halfN (n : Int) : Int := if n < 13 then n else if n < 269 then 13 else 14
/-- .. and the bytes of it that follow -/
def halfS (n : Int) : ByteArray := if n < 13 then ⟨#[]⟩ else if n < 269 then numS (n - 13) 1 else numS (n - 269) 2
def headS (more many : Int) : ByteArray := numS (halfN more * 16 + halfN many) 1 ++ halfS more ++ halfS many
def optS (a : Int) (o : Int × ByteArray) : ByteArray := headS (o.1 - a) o.2.size ++ o.2
def optsS : Int → List (Int × ByteArray) → ByteArray
  | _, [] => ⟨#[]⟩
  | a, o :: l => optS a o ++ optsS o.1 l
def paylS (p : ByteArray) : ByteArray := if p = ⟨#[]⟩ then ⟨#[]⟩ else numS 255 1 ++ p
/-- a message's bytes -/
def encM (m : Mg) : ByteArray := numS (64 + m.kind * 16 + m.token.size) 1 ++ numS m.code 1 ++ numS m.id 2 ++ m.token ++ optsS 0 m.opts ++ paylS m.payload
/-- what Encode answers -/
def encMS (m : Mg) : ByteArray := if chkM m = 0 then encM m else ⟨#[]⟩

theorem mb_assoc (a b c : ByteArray) : a ++ b ++ c = a ++ (b ++ c) := by
  apply ByteArray.ext; apply Array.toList_inj.1; simp
theorem mb_nil (a : ByteArray) : a ++ (⟨#[]⟩ : ByteArray) = a := by
  apply ByteArray.ext; apply Array.toList_inj.1; simp

theorem optsS_append (l l' : List (Int × ByteArray)) : ∀ a, optsS a (l ++ l') = optsS a l ++ optsS (lastN a l) l' := by
  induction l with
  | nil => intro a; exact (str_nil _).symm
  | cons o l ih => intro a; simp only [List.cons_append, optsS, lastN, ih, mb_assoc]
theorem optsS_snoc (a : Int) (l : List (Int × ByteArray)) (n : Nat) (h : n < l.length) : optsS a (l.take (n + 1)) = optsS a (l.take n) ++ optS (lastN a (l.take n)) l[n] := by
  rw [List.take_succ_eq_append_getElem h, optsS_append, optsS, optsS, mb_nil]
theorem lastN_append (l : List (Int × ByteArray)) (o : Int × ByteArray) : ∀ a, lastN a (l ++ [o]) = o.1 := by
  induction l with
  | nil => intro a; rfl
  | cons x l ih => intro a; simp only [List.cons_append, lastN, ih]
theorem lastN_snoc (a : Int) (l : List (Int × ByteArray)) (n : Nat) (h : n < l.length) : lastN a (l.take (n + 1)) = l[n].1 := by
  rw [List.take_succ_eq_append_getElem h, lastN_append]

/-- options that have no error -/
theorem optsE_ok : ∀ (l : List (Int × ByteArray)) (a : Int), optsE a l = 0 → ∀ i (h : i < l.length), (0 ≤ l[i].1 ∧ l[i].1 ≤ 65535) ∧ lastN a (l.take i) ≤ l[i].1 ∧ l[i].2.size ≤ 60 := by
  intro l
  induction l with
  | nil => intro a _ i h; simp at h
  | cons o l ih =>
    intro a h i hi
    rw [optsE] at h
    split at h
    · simp at h
    · split at h
      · simp at h
      · split at h
        · simp at h
        · cases i with
          | zero => simp only [List.getElem_cons_zero, List.take_zero, lastN]; omega
          | succ i =>
            have := ih o.1 h i (by simpa using hi)
            simpa only [List.getElem_cons_succ, List.take_succ_cons, lastN] using this

/-- so far no error -/
theorem optsE_take : ∀ (l : List (Int × ByteArray)) (a : Int) (n : Nat), n ≤ l.length → (∀ i (h : i < l.length), i < n → (0 ≤ l[i].1 ∧ l[i].1 ≤ 65535) ∧ lastN a (l.take i) ≤ l[i].1 ∧ l[i].2.size ≤ 60) → optsE a l = optsE (lastN a (l.take n)) (l.drop n) := by
  intro l
  induction l with
  | nil => intro a n h _; simp only [List.take_nil, List.drop_nil, lastN, optsE]
  | cons o l ih =>
    intro a n h hp
    cases n with
    | zero => simp only [List.take_zero, List.drop_zero, lastN]
    | succ n =>
      have h0 := hp 0 (by simp) (by omega)
      simp only [List.getElem_cons_zero, List.take_zero, lastN] at h0
      rw [optsE, if_neg (by omega), if_neg (by omega), if_neg (by omega)]
      rw [ih o.1 n (by simpa using h) (fun i hi hn => by
        have := hp (i + 1) (by simpa using hi) (by omega)
        simpa only [List.getElem_cons_succ, List.take_succ_cons, lastN] using this)]
      simp only [List.take_succ_cons, List.drop_succ_cons, lastN]

theorem chkM_ok {m : Mg} (h : chkM m = 0) : (0 ≤ m.kind ∧ m.kind ≤ 3) ∧ (0 ≤ m.code ∧ m.code ≤ 255) ∧ (0 ≤ m.id ∧ m.id ≤ 65535) ∧ m.token.size ≤ 8 ∧ m.opts.length ≤ 12 ∧ m.payload.size ≤ 200 ∧ optsE 0 m.opts = 0 := by
  unfold chkM at h
  split at h
  · simp at h
  · split at h
    · simp at h
    · split at h
      · simp at h
      · split at h
        · rename_i h4; exact absurd h h4
        · rename_i h1 h2 h3 h4
          exact ⟨by omega, by omega, by omega, by omega, by omega, by omega, Decidable.not_not.1 h4⟩

/-- what was taken, what is left, and whether there were too few -/
def tk (l : ByteArray) (k : Nat) : ByteArray := if k ≤ l.size then l.extract 0 k else ⟨#[]⟩
def tkL (l : ByteArray) (k : Nat) : ByteArray := if k ≤ l.size then l.extract k l.size else l
def tkB (l : ByteArray) (k : Nat) (bad : Bool) : Bool := bad || decide (l.size < k)
/-- a number of k bytes -/
def nu (l : ByteArray) (k : Nat) : Int := if k ≤ l.size then (beN l 0 k : Int) else 0
/-- the number that a half tells, and the bytes that follow it -/
def am (l : ByteArray) (t : Int) : Int := if t = 13 then 13 + nu l 1 else if t = 14 then 269 + nu l 2 else t
def amL (l : ByteArray) (t : Int) : ByteArray := if t = 13 then tkL l 1 else if t = 14 then tkL l 2 else l
def amB (l : ByteArray) (t : Int) (bad : Bool) : Bool := if t = 13 then tkB l 1 bad else if t = 14 then tkB l 2 bad else bad || decide (14 < t)
/-- an option: its first byte, what is left behind each part, what the parts tell -/
def oL1 (l : ByteArray) : ByteArray := tkL l 1
def oMore (l : ByteArray) : Int := am (oL1 l) (nu l 1 / 16)
def oL2 (l : ByteArray) : ByteArray := amL (oL1 l) (nu l 1 / 16)
def oMany (l : ByteArray) : Int := am (oL2 l) (nu l 1 % 16)
def oL3 (l : ByteArray) : ByteArray := amL (oL2 l) (nu l 1 % 16)
def oVal (l : ByteArray) : ByteArray := tk (oL3 l) (oMany l).toNat
def oLeft (l : ByteArray) : ByteArray := tkL (oL3 l) (oMany l).toNat
def oBad (l : ByteArray) (bad : Bool) : Bool := tkB (oL3 l) (oMany l).toNat (amB (oL2 l) (nu l 1 % 16) (amB (oL1 l) (nu l 1 / 16) (tkB l 1 bad)))
/-- one more than are allowed is enough -/
def add13 (acc : List (Int × ByteArray)) (o : Int × ByteArray) : List (Int × ByteArray) := if acc.length ≤ 12 then acc ++ [o] else acc
def rOpts : Nat → ByteArray → Bool → Int → List (Int × ByteArray) → List (Int × ByteArray) × ByteArray × Bool
  | 0, l, bad, _, acc => (acc, l, bad)
  | f + 1, l, bad, a, acc => if bad = false ∧ 0 < l.size ∧ bt l 0 ≠ 255 then rOpts f (oLeft l) (oBad l bad) (a + oMore l) (add13 acc (a + oMore l, oVal l)) else (acc, l, bad)
/-- the payload -/
def plV (l : ByteArray) : ByteArray := if l.size = 0 then ⟨#[]⟩ else tkL l 1
def plB (l : ByteArray) (bad : Bool) : Bool := bad || decide (l.size = 1)
def zeroMg : Mg := ⟨0, 0, 0, ⟨#[]⟩, [], ⟨#[]⟩⟩
/-- is the first byte one of a message? -/
def fstB (n : Int) : Bool := decide (64 ≤ n) && decide ((n - 64) / 16 ≤ 3) && decide (n % 16 ≤ 8)
def mL1 (s : ByteArray) : ByteArray := tkL s 1
def mL2 (s : ByteArray) : ByteArray := tkL (mL1 s) 1
def mL3 (s : ByteArray) : ByteArray := tkL (mL2 s) 2
def mL4 (s : ByteArray) : ByteArray := tkL (mL3 s) (nu s 1 % 16).toNat
def mB4 (s : ByteArray) : Bool := tkB (mL3 s) (nu s 1 % 16).toNat (tkB (mL2 s) 2 (tkB (mL1 s) 1 (tkB s 1 false)))
def mO (s : ByteArray) : List (Int × ByteArray) × ByteArray × Bool := rOpts ((mL4 s).size + 1) (mL4 s) (mB4 s) 0 []
/-- the message that has just these bytes, right or wrong otherwise -/
def rdM (s : ByteArray) : Mg := if fstB (nu s 1) = true then ⟨(nu s 1 - 64) / 16, nu (mL1 s) 1, nu (mL2 s) 2, tk (mL3 s) (nu s 1 % 16).toNat, (mO s).1, plV (mO s).2.1⟩ else zeroMg
def rdMB (s : ByteArray) : Bool := fstB (nu s 1) && !plB (mO s).2.1 (mO s).2.2
/-- what Decode answers -/
def decME (s : ByteArray) : Int := if rdMB s = false then 1 else chkM (rdM s)
def decM (s : ByteArray) : Mg := if decME s = 0 then rdM s else zeroMg
end Go.Proofs.YtgmjdelgocbcaacDoor
