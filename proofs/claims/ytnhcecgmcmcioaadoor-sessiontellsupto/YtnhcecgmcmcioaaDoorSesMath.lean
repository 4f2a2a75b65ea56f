/-
  Sessions, as plain data: what is wrong with one (no program in it).
-/
import Derived.Test.YtnhcecgmcmcioaaDoorRowBase
import Derived.Test.YtnhcecgmcmcioaaDoorPacketBase
namespace Go.Proofs.YtnhcecgmcmcioaaDoor
open Go.RowKit Go.PlainAid

/-- what flies, or waits -/
structure Fl where
  id : Int
  topic : ByteArray
  load : ByteArray
deriving DecidableEq
def flV (f : Fl) : Value := .agg #[.int .i64 f.id, .string f.topic, .string f.load]
def flZ : Fl := ⟨0, ⟨#[]⟩, ⟨#[]⟩⟩
/-- a session -/
structure Se where
  client : ByteArray
  on : Bool
  clean : Bool
  fl : List Fl
  qu : List Fl
  next : Int
/-- its value: the two lists lie where their addresses say -/
def seV (s : Se) (aa : Option Addr) (ca : Nat) (ab : Option Addr) (cb : Nat) : Value := .agg #[.string s.client, .bool s.on, .bool s.clean, .slice aa s.fl.length ca, .slice ab s.qu.length cb, .int .i64 s.next]

/-- they lie there -/
def FlsIn (w : World) (ao : Option Addr) (l : List Fl) : Prop :=
  l = [] ∨ ∃ b o, ao = some ⟨b, o, none⟩ ∧ b < w.heap.size ∧ ∀ i (h : i < l.length), w.cell? ⟨b, o + i * 3, none⟩ = some (.int .i64 l[i].id) ∧ w.cell? ⟨b, o + i * 3 + 1, none⟩ = some (.string l[i].topic) ∧ w.cell? ⟨b, o + i * 3 + 2, none⟩ = some (.string l[i].load)
theorem FlsIn.below {w w' : World} {ao : Option Addr} {l : List Fl} (h : FlsIn w ao l) (hb : Below w.heap.size w w') : FlsIn w' ao l := by
  rcases h with h | ⟨b, o, ha, hl, hc⟩
  · exact .inl h
  · exact .inr ⟨b, o, ha, Nat.lt_of_lt_of_le hl hb.size, fun i hi => ⟨(hb.cell (p := ⟨b, _, none⟩) hl).trans (hc i hi).1, (hb.cell (p := ⟨b, _, none⟩) hl).trans (hc i hi).2.1, (hb.cell (p := ⟨b, _, none⟩) hl).trans (hc i hi).2.2⟩⟩
theorem fls_take {w : World} {ao : Option Addr} {l : List Fl} (h : FlsIn w ao l) (m : Nat) : FlsIn w ao (l.take m) := by
  rcases h with rfl | ⟨b, o, ha, hb, hc⟩
  · left; simp
  · exact .inr ⟨b, o, ha, hb, fun i hi => by
      have hi' : i < l.length := by simp at hi; omega
      simpa using hc i hi'⟩
theorem fls_here {w : World} {ao : Option Addr} {l : List Fl} {k : Nat} (h : FlsIn w ao l) (hlt : k < l.length) : ∃ b o, ao = some ⟨b, o, none⟩ ∧ b < w.heap.size ∧ ∀ i (h : i < l.length), w.cell? ⟨b, o + i * 3, none⟩ = some (.int .i64 l[i].id) ∧ w.cell? ⟨b, o + i * 3 + 1, none⟩ = some (.string l[i].topic) ∧ w.cell? ⟨b, o + i * 3 + 2, none⟩ = some (.string l[i].load) := by
  rcases h with rfl | h
  · simp at hlt
  · exact h
def SeIn (w : World) (s : Se) (aa ab : Option Addr) : Prop := FlsIn w aa s.fl ∧ FlsIn w ab s.qu
theorem SeIn.below {w w' : World} {s : Se} {aa ab : Option Addr} (h : SeIn w s aa ab) (hb : Below w.heap.size w w') : SeIn w' s aa ab := ⟨h.1.below hb, h.2.below hb⟩

/-- what is wrong with what is told -/
def toldE (t p : ByteArray) : Int := if chk nameF t ≠ 0 then chk nameF t else if 200 < p.size then 2 else 0
def idOk (n : Int) : Bool := decide (1 ≤ n) && decide (n ≤ 65535)
def isI (id : Int) (f : Fl) : Bool := f.id == id
/-- what is wrong with flights: those stood ahead of them -/
def fchkL : List Fl → List Fl → Int
  | _, [] => 0
  | a, f :: l => if toldE f.topic f.load ≠ 0 then toldE f.topic f.load else if idOk f.id = false then 3 else if a.any (isI f.id) = true then 6 else fchkL (a ++ [f]) l
theorem fchkL_step (l : List Fl) (k : Nat) (h : k < l.length) : fchkL (l.take k) (l.drop k) = if toldE l[k].topic l[k].load ≠ 0 then toldE l[k].topic l[k].load else if idOk l[k].id = false then 3 else if (l.take k).any (isI l[k].id) = true then 6 else fchkL (l.take (k + 1)) (l.drop (k + 1)) := by
  rw [List.drop_eq_getElem_cons h, fchkL, List.take_succ_eq_append_getElem h]
/-- .. with what waits -/
def qchkL : List Fl → Int
  | [] => 0
  | f :: l => if toldE f.topic f.load ≠ 0 then toldE f.topic f.load else if f.id ≠ 0 then 1 else qchkL l
theorem qchkL_step (l : List Fl) (k : Nat) (h : k < l.length) : qchkL (l.drop k) = if toldE l[k].topic l[k].load ≠ 0 then toldE l[k].topic l[k].load else if l[k].id ≠ 0 then 1 else qchkL (l.drop (k + 1)) := by
  rw [List.drop_eq_getElem_cons h, qchkL]
/-- may a client be called so? -/
def clB (s : ByteArray) : Bool := decide (s.size ≤ 20) && nameB s
/-- is nothing there that must be gone, and does nothing wait that could fly? -/
def settled (s : Se) : Bool := cond s.on (decide (s.qu.length = 0) || decide (s.fl.length = 3)) (!s.clean || (decide (s.fl.length = 0) && decide (s.qu.length = 0)))
/-- what is wrong with a session -/
def chkS (s : Se) : Int :=
  if clB s.client = false then 1 else if 3 < s.fl.length ∨ 6 < s.qu.length then 2 else if fchkL [] s.fl ≠ 0 then fchkL [] s.fl else if qchkL s.qu ≠ 0 then qchkL s.qu else if idOk s.next = false then 3 else if settled s = false then 4 else 0

/-- the place of the first one of that Id -/
def idxF (id : Int) : Nat → List Fl → Int
  | _, [] => -1
  | i, b :: l => if isI id b = true then i else idxF id (i + 1) l
theorem idxF_step (id : Int) (l : List Fl) (k : Nat) (h : k < l.length) : idxF id k (l.drop k) = if isI id l[k] = true then (k : Int) else idxF id (k + 1) (l.drop (k + 1)) := by
  rw [List.drop_eq_getElem_cons h, idxF]
theorem idxF_at (id : Int) : ∀ (l : List Fl) (i : Nat), decide (0 ≤ idxF id i l) = l.any (isI id)
  | [], i => by simp [idxF]
  | b :: l, i => by
    rw [idxF, List.any_cons]
    cases h : isI id b with
    | false => simp only [Bool.false_or]; rw [if_neg (by simp)]; exact idxF_at id l (i + 1)
    | true => simp
end Go.Proofs.YtnhcecgmcmcioaaDoor
