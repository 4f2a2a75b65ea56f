/-
  What is kept, as plain data: what is wrong with it, what is put, what is got (no program in it).
-/
import Derived.Test.YtcldjoklkbbbgadDoorTopicMath
namespace Go.Proofs.YtcldjoklkbbbgadDoor
open Go.RowKit Go.PlainAid

/-- what is kept by a topic -/
structure Kp where
  topic : ByteArray
  payload : ByteArray
  ver : Int
deriving DecidableEq

def kpV (k : Kp) : Value := .agg #[.string k.topic, .string k.payload, .int .i64 k.ver]
def kpZ : Kp := ⟨⟨#[]⟩, ⟨#[]⟩, 0⟩
/-- it lies there -/
def KpsIn (w : World) (ao : Option Addr) (l : List Kp) : Prop :=
  l = [] ∨ ∃ b o, ao = some ⟨b, o, none⟩ ∧ b < w.heap.size ∧ ∀ i (h : i < l.length), w.cell? ⟨b, o + i * 3, none⟩ = some (.string l[i].topic) ∧ w.cell? ⟨b, o + i * 3 + 1, none⟩ = some (.string l[i].payload) ∧ w.cell? ⟨b, o + i * 3 + 2, none⟩ = some (.int .i64 l[i].ver)
theorem KpsIn.below {w w' : World} {ao : Option Addr} {l : List Kp} (h : KpsIn w ao l) (hb : Below w.heap.size w w') : KpsIn w' ao l := by
  rcases h with h | ⟨b, o, ha, hl, hc⟩
  · exact .inl h
  · exact .inr ⟨b, o, ha, Nat.lt_of_lt_of_le hl hb.size, fun i hi => ⟨(hb.cell (p := ⟨b, _, none⟩) hl).trans (hc i hi).1, (hb.cell (p := ⟨b, _, none⟩) hl).trans (hc i hi).2.1, (hb.cell (p := ⟨b, _, none⟩) hl).trans (hc i hi).2.2⟩⟩

/-- one text stands ahead of another one -/
def tless (a b : ByteArray) : Bool := Op.bytesLess a.toList b.toList
theorem bl_irrefl : ∀ x : List UInt8, Op.bytesLess x x = false
  | [] => rfl
  | a :: x => by simp [Op.bytesLess, bl_irrefl x]
theorem bl_trans : ∀ x y z : List UInt8, Op.bytesLess x y = true → Op.bytesLess y z = true → Op.bytesLess x z = true
  | _, [], _, h, _ => by simp [Op.bytesLess] at h
  | _, _ :: _, [], _, h => by simp [Op.bytesLess] at h
  | [], _ :: _, _ :: _, _, _ => rfl
  | a :: x, b :: y, c :: z, h1, h2 => by
    simp only [Op.bytesLess, Bool.or_eq_true, decide_eq_true_eq, Bool.and_eq_true, beq_iff_eq] at h1 h2 ⊢
    rcases h1 with h1 | ⟨rfl, h1⟩
    · rcases h2 with h2 | ⟨rfl, h2⟩
      · exact .inl (UInt8.lt_trans h1 h2)
      · exact .inl h1
    · rcases h2 with h2 | ⟨rfl, h2⟩
      · exact .inl h2
      · exact .inr ⟨rfl, bl_trans x y z h1 h2⟩
theorem bl_total : ∀ x y : List UInt8, Op.bytesLess x y = false → x ≠ y → Op.bytesLess y x = true
  | [], [], _, h => absurd rfl h
  | [], _ :: _, h, _ => by simp [Op.bytesLess] at h
  | _ :: _, [], _, _ => rfl
  | a :: x, b :: y, h1, h2 => by
    simp only [Op.bytesLess, Bool.or_eq_false_iff, decide_eq_false_iff_not, Bool.and_eq_false_iff, Bool.or_eq_true, decide_eq_true_eq, Bool.and_eq_true, beq_iff_eq] at h1 ⊢
    obtain ⟨h1, h3⟩ := h1
    by_cases e : a = b
    · subst e
      right
      refine ⟨rfl, bl_total x y ?_ (fun e => h2 (by rw [e]))⟩
      rcases h3 with h3 | h3
      · simp at h3
      · exact h3
    · left
      rcases UInt8.lt_or_lt_of_ne e with h | h
      · exact absurd h h1
      · exact h
theorem tl_irrefl (a : ByteArray) : tless a a = false := bl_irrefl _
theorem tl_trans {a b c : ByteArray} (h1 : tless a b = true) (h2 : tless b c = true) : tless a c = true := bl_trans _ _ _ h1 h2
theorem tl_total {a b : ByteArray} (h1 : tless a b = false) (h2 : a ≠ b) : tless b a = true := bl_total _ _ h1 (fun e => h2 (ByteArray.ext (Array.toList_inj.1 (by rwa [ByteArray.toList_eq, ByteArray.toList_eq] at e))))
theorem tl_ne {a b : ByteArray} (h : tless a b = true) : a ≠ b := fun e => by subst e; rw [tl_irrefl] at h; cases h
theorem tl_asymm {a b : ByteArray} (h : tless a b = true) : tless b a = false := by
  cases e : tless b a with
  | false => rfl
  | true => have := tl_trans h e; rw [tl_irrefl] at this; cases this

theorem leq_not (t a : ByteArray) : (Op.bytesLess t.toList a.toList || t.toList == a.toList) = !tless a t := by
  rw [txt_eq]
  show (tless t a || decide (t = a)) = _
  cases e : tless a t with
  | true => rw [tl_asymm e, decide_eq_false (fun h => tl_ne e h.symm)]; rfl
  | false =>
    by_cases h : t = a
    · rw [decide_eq_true h]; simp
    · rw [tl_total e (fun h' => h h'.symm)]; rfl

/-- what is wrong with one -/
def chkO (k : Kp) : Int :=
  if chk nameF k.topic ≠ 0 then chk nameF k.topic else if k.payload = ⟨#[]⟩ then 1 else if 200 < k.payload.size then 2 else if k.ver < 1 ∨ 16777215 < k.ver then 3 else 0
/-- .. with all: ahead of them stood that topic -/
def chkL : ByteArray → List Kp → Int
  | _, [] => 0
  | a, k :: l => if chkO k ≠ 0 then chkO k else if tless a k.topic = false then 4 else chkL k.topic l
def chkK (l : List Kp) : Int := if 16 < l.length then 2 else chkL ⟨#[]⟩ l
def lastT : ByteArray → List Kp → ByteArray
  | a, [] => a
  | _, k :: l => lastT k.topic l
theorem lastT_append (l : List Kp) (o : Kp) : ∀ a, lastT a (l ++ [o]) = o.topic := by
  induction l with
  | nil => intro a; rfl
  | cons x l ih => intro a; simp only [List.cons_append, lastT, ih]
theorem lastT_snoc (a : ByteArray) (l : List Kp) (n : Nat) (h : n < l.length) : lastT a (l.take (n + 1)) = l[n].topic := by
  rw [List.take_succ_eq_append_getElem h, lastT_append]
theorem chkL_step (a : ByteArray) (l : List Kp) (k : Nat) (h : k < l.length) : chkL (lastT a (l.take k)) (l.drop k) = if chkO l[k] ≠ 0 then chkO l[k] else if tless (lastT a (l.take k)) l[k].topic = false then 4 else chkL (lastT a (l.take (k + 1))) (l.drop (k + 1)) := by
  rw [List.drop_eq_getElem_cons h, chkL, lastT_snoc a l k h]

/-- all of them stand behind a text, and one behind the other -/
theorem chkL_iff : ∀ (l : List Kp) (a : ByteArray), chkL a l = 0 ↔ (∀ k ∈ l, chkO k = 0) ∧ (∀ k ∈ l, tless a k.topic = true) ∧ l.Pairwise (fun x y => tless x.topic y.topic = true)
  | [], a => by simp [chkL]
  | k :: l, a => by
    rw [chkL]
    constructor
    · intro h
      split at h
      · rename_i h1; exact absurd h h1
      · split at h
        · simp at h
        · rename_i h1 h2
          obtain ⟨g1, g2, g3⟩ := (chkL_iff l k.topic).1 h
          have hk : tless a k.topic = true := by cases e : tless a k.topic with | true => rfl | false => exact absurd e h2
          refine ⟨fun x hx => ?_, fun x hx => ?_, List.pairwise_cons.2 ⟨g2, g3⟩⟩
          · rcases List.mem_cons.1 hx with rfl | hx
            · exact Decidable.not_not.1 h1
            · exact g1 x hx
          · rcases List.mem_cons.1 hx with rfl | hx
            · exact hk
            · exact tl_trans hk (g2 x hx)
    · rintro ⟨g1, g2, g3⟩
      rw [if_neg (by simp [g1 k (by simp)]), if_neg (by simp [g2 k (by simp)])]
      exact (chkL_iff l k.topic).2 ⟨fun x hx => g1 x (by simp [hx]), fun x hx => (List.pairwise_cons.1 g3).1 x hx, (List.pairwise_cons.1 g3).2⟩
theorem chkO_topic {k : Kp} (h : chkO k = 0) : chk nameF k.topic = 0 ∧ k.payload ≠ ⟨#[]⟩ ∧ k.payload.size ≤ 200 ∧ 1 ≤ k.ver ∧ k.ver ≤ 16777215 := by
  unfold chkO at h
  split at h
  · rename_i h1; exact absurd h h1
  · split at h
    · simp at h
    · split at h
      · simp at h
      · split at h
        · simp at h
        · rename_i h1 h2 h3 h4
          exact ⟨Decidable.not_not.1 h1, h2, by omega, by omega, by omega⟩
theorem chkO_mk {k : Kp} (h1 : chk nameF k.topic = 0) (h2 : k.payload ≠ ⟨#[]⟩) (h3 : k.payload.size ≤ 200) (h4 : 1 ≤ k.ver) (h5 : k.ver ≤ 16777215) : chkO k = 0 := by
  unfold chkO
  rw [if_neg (by simp [h1]), if_neg h2, if_neg (by omega), if_neg (by omega)]
theorem tl_first {s : ByteArray} (h : chk nameF s = 0) : tless ⟨#[]⟩ s = true := by
  unfold tless
  rw [ByteArray.toList_eq ⟨#[]⟩]
  have hne : s.toList ≠ [] := fun e => by
    have : s.size = 0 := by rw [ByteArray.toList_eq] at e; have := congrArg List.length e; simpa using this
    rw [chk_empty _ this] at h
    cases h
  cases e : s.toList with
  | nil => exact absurd e hne
  | cons b l => rfl
theorem chkK_iff (l : List Kp) : chkK l = 0 ↔ l.length ≤ 16 ∧ (∀ k ∈ l, chkO k = 0) ∧ l.Pairwise (fun x y => tless x.topic y.topic = true) := by
  unfold chkK
  constructor
  · intro h
    split at h
    · simp at h
    · obtain ⟨g1, _, g3⟩ := (chkL_iff l _).1 h
      exact ⟨by omega, g1, g3⟩
  · rintro ⟨g0, g1, g3⟩
    rw [if_neg (by omega)]
    exact (chkL_iff l _).2 ⟨g1, fun k hk => tl_first (chkO_topic (g1 k hk)).1, g3⟩

def isT (n : ByteArray) (k : Kp) : Bool := decide (k.topic = n)
def ltT (n : ByteArray) (k : Kp) : Bool := tless k.topic n
def gtT (n : ByteArray) (k : Kp) : Bool := tless n k.topic
def byT (l : List Kp) (n : ByteArray) : List Kp := l.filter (isT n)
def nextV (l : List Kp) (n : ByteArray) : Int := match byT l n with | [] => 1 | k :: _ => min (k.ver + 1) 16777215
def putM (l : List Kp) (n p : ByteArray) : List Kp := if p = ⟨#[]⟩ then [] else [⟨n, p, nextV l n⟩]
def putL (l : List Kp) (n p : ByteArray) : List Kp := l.filter (ltT n) ++ putM l n p ++ l.filter (gtT n)
def allE (l : List Kp) (e : Int) : Int := if chkK l ≠ 0 then chkK l else e
def putE (l : List Kp) (n p : ByteArray) : Int := if allE l (chk nameF n) ≠ 0 then allE l (chk nameF n) else if 200 < p.size then 2 else if 16 < (putL l n p).length then 2 else 0
def putA (l : List Kp) (n p : ByteArray) : List Kp := if putE l n p = 0 then putL l n p else []
def getE (l : List Kp) (n : ByteArray) : Int := if allE l (chk nameF n) ≠ 0 then allE l (chk nameF n) else if byT l n = [] then 5 else 0
def getK (l : List Kp) (n : ByteArray) : Kp := if getE l n = 0 then (byT l n).headD kpZ else kpZ

theorem putE_ok {l : List Kp} {n p : ByteArray} (h : putE l n p = 0) : chkK l = 0 ∧ chk nameF n = 0 ∧ p.size ≤ 200 ∧ (putL l n p).length ≤ 16 := by
  unfold putE at h
  split at h
  · rename_i h1; exact absurd h h1
  · split at h
    · simp at h
    · split at h
      · simp at h
      · rename_i h1 h2 h3
        have h1 := Decidable.not_not.1 h1
        unfold allE at h1
        split at h1
        · rename_i h4; exact absurd h1 h4
        · rename_i h4; exact ⟨Decidable.not_not.1 h4, h1, by omega, by omega⟩
theorem nextV_in {l : List Kp} (h : ∀ k ∈ l, chkO k = 0) (n : ByteArray) : 1 ≤ nextV l n ∧ nextV l n ≤ 16777215 := by
  unfold nextV
  split
  · omega
  · rename_i k r e
    have hk : k ∈ l := (List.mem_filter (p := isT n)).1 (by show k ∈ byT l n; rw [e]; simp) |>.1
    have := (chkO_topic (h k hk)).2.2.2
    omega
/-- what is put passes Check -/
theorem put_check {l : List Kp} {n p : ByteArray} (h : putE l n p = 0) : chkK (putL l n p) = 0 := by
  obtain ⟨h1, h2, h3, h4⟩ := putE_ok h
  obtain ⟨_, g1, g3⟩ := (chkK_iff l).1 h1
  refine (chkK_iff _).2 ⟨h4, fun k hk => ?_, ?_⟩
  · unfold putL putM at hk
    rw [List.mem_append, List.mem_append] at hk
    rcases hk with (hk | hk) | hk
    · exact g1 k ((List.mem_filter.1 hk).1)
    · split at hk
      · simp at hk
      · rename_i hp
        simp only [List.mem_singleton] at hk
        subst hk
        exact chkO_mk h2 hp h3 (nextV_in g1 n).1 (nextV_in g1 n).2
    · exact g1 k ((List.mem_filter.1 hk).1)
  · unfold putL
    have hm : ∀ k ∈ putM l n p, k.topic = n := fun k hk => by
      unfold putM at hk
      split at hk
      · simp at hk
      · simp only [List.mem_singleton] at hk; rw [hk]
    refine List.pairwise_append.2 ⟨List.pairwise_append.2 ⟨g3.filter _, ?_, fun x hx y hy => ?_⟩, g3.filter _, fun x hx y hy => ?_⟩
    · unfold putM; split <;> simp
    · rw [hm y hy]; exact (List.mem_filter.1 hx).2
    · have hy2 : tless n y.topic = true := (List.mem_filter.1 hy).2
      rcases List.mem_append.1 hx with hx | hx
      · exact tl_trans (List.mem_filter.1 hx).2 hy2
      · rw [hm x hx]; exact hy2
/-- what was put is got -/
theorem put_by {l : List Kp} {n p : ByteArray} : byT (putL l n p) n = putM l n p := by
  unfold byT putL
  rw [List.filter_append, List.filter_append]
  have e1 : (l.filter (ltT n)).filter (isT n) = [] := List.filter_eq_nil_iff.2 fun k hk h => tl_ne (List.mem_filter.1 hk).2 (of_decide_eq_true h)
  have e2 : (l.filter (gtT n)).filter (isT n) = [] := List.filter_eq_nil_iff.2 fun k hk h => tl_ne (List.mem_filter.1 hk).2 (of_decide_eq_true h).symm
  have e3 : (putM l n p).filter (isT n) = putM l n p := by unfold putM; split <;> simp [isT]
  rw [e1, e2, e3]
  simp
/-- and nothing else is other -/
theorem put_other {l : List Kp} {n p o : ByteArray} (ho : o ≠ n) : byT (putL l n p) o = byT l o := by
  unfold byT putL
  rw [List.filter_append, List.filter_append, List.filter_filter, List.filter_filter]
  have e3 : (putM l n p).filter (isT o) = [] := by unfold putM; split <;> simp [isT, Ne.symm ho]
  rw [e3, List.append_nil]
  cases e : tless o n with
  | true =>
    have e1 : (fun k => isT o k && ltT n k) = isT o := funext fun k => by
      cases h : isT o k with
      | false => rfl
      | true => have : k.topic = o := of_decide_eq_true h; simp [ltT, this, e]
    have e2 : (fun k => isT o k && gtT n k) = fun _ => false := funext fun k => by
      cases h : isT o k with
      | false => rfl
      | true => have : k.topic = o := of_decide_eq_true h; simp [gtT, this, tl_asymm e]
    rw [e1, e2]
    simp
  | false =>
    have e' := tl_total e ho
    have e1 : (fun k => isT o k && gtT n k) = isT o := funext fun k => by
      cases h : isT o k with
      | false => rfl
      | true => have : k.topic = o := of_decide_eq_true h; simp [gtT, this, e']
    have e2 : (fun k => isT o k && ltT n k) = fun _ => false := funext fun k => by
      cases h : isT o k with
      | false => rfl
      | true => have : k.topic = o := of_decide_eq_true h; simp [ltT, this, e]
    rw [e1, e2]
    simp
theorem get_other {l : List Kp} {n p o : ByteArray} (h : putE l n p = 0) (ho : o ≠ n) : getE (putL l n p) o = getE l o ∧ getK (putL l n p) o = getK l o := by
  have hc := put_check h
  have hl := (putE_ok h).1
  unfold getK getE allE
  rw [hc, hl, put_other ho]
  exact ⟨rfl, rfl⟩
theorem get_put {l : List Kp} {n p : ByteArray} (h : putE l n p = 0) : getE (putL l n p) n = (if p = ⟨#[]⟩ then 5 else 0) ∧ (p ≠ ⟨#[]⟩ → (getK (putL l n p) n).payload = p) := by
  have hc := put_check h
  have hn := (putE_ok h).2.1
  have hE : getE (putL l n p) n = (if p = ⟨#[]⟩ then 5 else 0) := by
    unfold getE allE
    rw [hc, hn, put_by]
    unfold putM
    by_cases hp : p = ⟨#[]⟩
    · simp [hp]
    · simp [hp]
  refine ⟨hE, fun hp => ?_⟩
  unfold getK
  rw [hE, if_neg hp, if_pos rfl, put_by]
  unfold putM
  rw [if_neg hp]
  rfl
end Go.Proofs.YtcldjoklkbbbgadDoor
