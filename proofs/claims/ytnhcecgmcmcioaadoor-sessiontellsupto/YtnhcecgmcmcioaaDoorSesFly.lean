/-
  session.sender's sendFlight, freeId: what they answer.
-/
import Derived.Test.YtnhcecgmcmcioaaDoorSesSend
namespace Go.Proofs.YtnhcecgmcmcioaaDoor
open Go.RowKit Go.PlainAid

/-- the packet that tells a flight -/
def flP (f : Fl) (dup : Bool) : Pk := ⟨3, dup, false, false, false, 1, f.id, 0, 0, ⟨#[]⟩, f.topic, f.load, [], []⟩

set_option maxHeartbeats 2000000 in
theorem sendFlight_any (N b : Nat) (s : Se) (va : Value) (ab : Option Addr) (cb : Nat) (ao : Option Addr) (cs : Nat) (L : List Pk) (w W : World) (f : Fl) (dup : Bool) (hs : Sd N b s va ab cb (.slice ao L.length cs) L w W) (hL : L.length ≤ 1048576) (h1 : f.topic.size ≤ 281474976710656) (h2 : f.load.size ≤ 281474976710656) :
    Calls Tryd.prog 28 #[.pointer (some ⟨b, 0, none⟩), flV f, .bool dup] W fun e W' => e = .returned (.tuple #[]) ∧ ∃ a' c', Sd N b s va ab cb (.slice a' (L.length + 1) c') (L ++ [flP f dup]) w W' := by
  obtain ⟨n, t, p⟩ := f
  have HS := hide (hs.alloc (.cells #[.int .i64 n, .string t, .string p] 46))
  have C := hide (fun V (h : Sd N b s va ab cb (.slice ao L.length cs) L w V) => ssend_any N b s va ab cb ao cs L w V ⟨0, dup, false, false, false, 1, n, 0, 0, ⟨#[]⟩, t, p, [], []⟩ h hL h1 h2)
  simp only [spC] at C
  clear hs h1 h2
  simp only [flV, flP]
  go_enter Tryd.func28, Tryd.ntmps28
  go_wp2_with fail
  refine (C.out _ HS.out).mono ?_
  rintro e w1 ⟨rfl, a', c', h⟩
  have HN := hide h
  clear h C HS
  go_wp2
  go_end0
  exact ⟨rfl, a', c', HN.out⟩

/-- the Id itself, or the first one behind it that none of them has (so many tries) -/
def frId (l : List Fl) : Nat → Int → Int
  | 0, id => id
  | k + 1, id => if l.any (isI id) = true then frId l k (nxt id) else id
theorem nxt_in {n : Int} (h : 1 ≤ n ∧ n ≤ 65535) : 1 ≤ nxt n ∧ nxt n ≤ 65535 := by unfold nxt; split <;> omega
theorem any_mem {l : List Fl} {id : Int} (h : l.any (isI id) = true) : ∃ f ∈ l, f.id = id := by
  obtain ⟨f, hf, hi⟩ := List.any_eq_true.1 h
  exact ⟨f, hf, by simpa [isI] using hi⟩
/-- of three flights one of four Ids is free -/
theorem free_some {l : List Fl} (hl : l.length ≤ 3) {id : Int} (h : 1 ≤ id ∧ id ≤ 65535) : ¬ (l.any (isI id) = true ∧ l.any (isI (nxt id)) = true ∧ l.any (isI (nxt (nxt id))) = true ∧ l.any (isI (nxt (nxt (nxt id)))) = true) := by
  rintro ⟨a, b, c, d⟩
  have e1 : nxt id = if id = 65535 then 1 else id + 1 := rfl
  have e2 : nxt (nxt id) = if nxt id = 65535 then 1 else nxt id + 1 := rfl
  have e3 : nxt (nxt (nxt id)) = if nxt (nxt id) = 65535 then 1 else nxt (nxt id) + 1 := rfl
  generalize nxt (nxt (nxt id)) = z at *
  generalize nxt (nxt id) = y at *
  generalize nxt id = x at *
  match l, hl with
  | [], _ => simp at a
  | [f], _ =>
    simp only [List.any_cons, List.any_nil, Bool.or_false, isI, beq_iff_eq] at a b c d
    split at e1 <;> omega
  | [f, g], _ =>
    simp only [List.any_cons, List.any_nil, Bool.or_false, Bool.or_eq_true, isI, beq_iff_eq] at a b c d
    split at e1 <;> split at e2 <;> split at e3 <;> omega
  | [f, g, k], _ =>
    simp only [List.any_cons, List.any_nil, Bool.or_false, Bool.or_eq_true, isI, beq_iff_eq] at a b c d
    split at e1 <;> split at e2 <;> split at e3 <;> omega
theorem frId_free {l : List Fl} (hl : l.length ≤ 3) {id : Int} (h : 1 ≤ id ∧ id ≤ 65535) : l.any (isI (frId l 4 id)) = false ∧ 1 ≤ frId l 4 id ∧ frId l 4 id ≤ 65535 := by
  have h1 := nxt_in h
  have h2 := nxt_in h1
  have h3 := nxt_in h2
  have hf := free_some hl h
  simp only [frId]
  cases a : l.any (isI id) with
  | false => rw [if_neg (by simp)]; exact ⟨a, h⟩
  | true =>
    rw [if_pos rfl]
    cases b : l.any (isI (nxt id)) with
    | false => rw [if_neg (by simp)]; exact ⟨b, h1⟩
    | true =>
      rw [if_pos rfl]
      cases c : l.any (isI (nxt (nxt id))) with
      | false => rw [if_neg (by simp)]; exact ⟨c, h2⟩
      | true =>
        rw [if_pos rfl]
        cases d : l.any (isI (nxt (nxt (nxt id)))) with
        | false => rw [if_neg (by simp)]; exact ⟨d, h3⟩
        | true => exact absurd ⟨a, b, c, d⟩ hf
end Go.Proofs.YtnhcecgmcmcioaaDoor
