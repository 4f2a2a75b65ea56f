/-
  A payload more is its bytes and one; an option more, behind all, leaves what stands ahead: plain facts on messages' bytes.
-/
import Derived.Test.YtedlebkpdejhiacMsgWrite
import Derived.Test.YtedlebkpdejhiacMsgBack
namespace Go.Proofs.Ytedlebkpdejhiac
open Go.RowKit Go.PlainAid

theorem encM_small {m : Mg} (h : chkM m = 0) : (encM m).size ≤ 100000 := by
  have hok := chkM_ok h
  have h1 := mnum_le4 (64 + m.kind * 16 + m.token.size) 1
  have h2 := mnum_le4 m.code 1
  have h3 := mnum_le4 m.id 2
  have h4 := optsS_le m.opts 0 (optsE_mem hok.2.2.2.2.2.2)
  have h5 : (paylS m.payload).size ≤ 204 := by
    unfold paylS
    split
    · exact Nat.zero_le _
    · have := mnum_le4 255 1
      rw [ByteArray.size_append]; omega
  simp only [encM, ByteArray.size_append]
  omega

theorem more_payload {m : Mg} (p : ByteArray) (hp : p ≠ ⟨#[]⟩) (h0 : m.payload = ⟨#[]⟩) : encM { m with payload := p } = encM m ++ ⟨#[255]⟩ ++ p := by
  have e1 : paylS m.payload = ⟨#[]⟩ := by rw [h0]; rfl
  have e2 : paylS p = numS 255 1 ++ p := if_neg hp
  have e3 : numS 255 1 = ⟨#[255]⟩ := by decide +kernel
  unfold encM
  simp only
  rw [e1, e2, e3, mb_nil]
  simp only [mb_assoc]
theorem more_option {m : Mg} (o : Int × ByteArray) (h0 : m.payload = ⟨#[]⟩) : encM { m with opts := m.opts ++ [o] } = encM m ++ optS (lastN 0 m.opts) o := by
  have e1 : paylS m.payload = ⟨#[]⟩ := by rw [h0]; rfl
  unfold encM
  simp only
  rw [e1, mb_nil, mb_nil, optsS_append, optsS, optsS, mb_nil]
  simp only [mb_assoc]
/-- what the law asks of an option more -/
theorem more_asks {s t : ByteArray} {a : Int} {o : Int × ByteArray} (ht : t = s ++ optS a o) (h1 : 0 ≤ o.1 - a) : s.size + o.2.size < t.size ∧ t.extract 0 s.size = s ∧ t.extract (t.size - o.2.size) t.size = o.2 := by
  have hh := head_size h1 (many := (o.2.size : Int)) (by omega)
  have hz : t.size = s.size + ((headS (o.1 - a) o.2.size).size + o.2.size) := by rw [ht, optS]; simp only [ByteArray.size_append]
  have e1 := (ext_two s (optS a o)).1
  rw [← ht] at e1
  have e2 : t = (s ++ headS (o.1 - a) o.2.size) ++ o.2 := by rw [ht, optS, mb_assoc]
  have e3 := (ext_two (s ++ headS (o.1 - a) o.2.size) o.2).2
  rw [← e2] at e3
  refine ⟨by omega, e1, ?_⟩
  rw [show t.size - o.2.size = (s ++ headS (o.1 - a) o.2.size).size by rw [ByteArray.size_append]; omega]
  exact e3
theorem lastN_le {l : List (Int × ByteArray)} {o : Int × ByteArray} (h : optsE 0 (l ++ [o]) = 0) : lastN 0 l ≤ o.1 := by
  have := optsE_ok (l ++ [o]) 0 h l.length (by simp)
  rw [List.take_left' rfl] at this
  simpa using this.2.1
theorem optsE_front {l : List (Int × ByteArray)} {o : Int × ByteArray} : ∀ a, optsE a (l ++ [o]) = 0 → optsE a l = 0 := by
  induction l with
  | nil => intro a _; rfl
  | cons x l ih =>
    intro a h
    rw [List.cons_append, optsE] at h
    rw [optsE]
    split at h
    · simp at h
    · split at h
      · simp at h
      · split at h
        · simp at h
        · rename_i h1 h2 h3
          rw [if_neg h1, if_neg h2, if_neg h3]; exact ih _ h
end Go.Proofs.Ytedlebkpdejhiac
