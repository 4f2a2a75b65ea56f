/-
  packet.writer's numbers and text: what they write.
-/
import Derived.Test.YtgmjdelgocbcaabDoorWriterBase
import Derived.Test.YtgmjdelgocbcaabDoorWireAll
import Derived.Test.YtgmjdelgocbcaabDoorPacketChecksAll
namespace Go.Proofs.YtgmjdelgocbcaabDoor
open Go.RowKit Go.PlainAid

/-- a block that a writer's writes leave -/
def Safe (N b : Nat) (w : World) (k : Nat) : Prop := k ≠ b ∧ (k < N ∨ ∃ o, w.heap[k]? = some o ∧ ∀ c fz, o ≠ .cells c 5 fz)
theorem Safe.same {N b k : Nat} {w w' : World} (h : Safe N b w k) (hk : KeptN N b w w') : w'.heap[k]? = w.heap[k]? := by
  rcases h.2 with h1 | ⟨o, h1, h2⟩
  · exact hk.block k h1 h.1
  · rw [hk.others k o h1 h.1 h2, h1]
theorem Safe.kept {N b k : Nat} {w w' : World} (h : Safe N b w k) (hk : KeptN N b w w') : Safe N b w' k := by
  refine ⟨h.1, ?_⟩
  rcases h.2 with h1 | ⟨o, h1, h2⟩
  · exact .inl h1
  · exact .inr ⟨o, hk.others k o h1 h.1 h2, h2⟩
theorem Safe.cell {N b : Nat} {w w' : World} {p : Addr} (h : Safe N b w p.block) (hk : KeptN N b w w') : w'.cell? p = w.cell? p := World.cell?_of_block (w := w) (h.same hk)
theorem Safe.frozen {N b : Nat} {w w' : World} {p : Addr} (h : Safe N b w p.block) (hk : KeptN N b w w') : w'.frozen? p = w.frozen? p := World.frozen?_of_block (w := w) (h.same hk)

/-- several numbers, by so many bytes each -/
def numsS (n : Int) : List Int → ByteArray
  | [] => ⟨#[]⟩
  | x :: l => numS x n ++ numsS n l

theorem ba_append_nil (s : ByteArray) : s ++ (⟨#[]⟩ : ByteArray) = s := by
  apply ByteArray.ext; apply Array.toList_inj.1; simp
theorem ba_assoc (a b c : ByteArray) : a ++ b ++ c = a ++ (b ++ c) := ByteArray.append_assoc
theorem numsS_append (n : Int) (a b : List Int) : numsS n (a ++ b) = numsS n a ++ numsS n b := by
  induction a with
  | nil => exact (str_nil _).symm
  | cons x l ih => simp only [List.cons_append, numsS, ih, ba_assoc]
theorem numsS_snoc (n : Int) (l : List Int) (k : Nat) (h : k < l.length) : numsS n (l.take (k + 1)) = numsS n (l.take k) ++ numS l[k] n := by
  rw [List.take_succ_eq_append_getElem h, numsS_append]
  simp only [numsS, ba_append_nil]
theorem numS_le4 (x n : Int) : (numS x n).size ≤ 4 := by
  unfold numS
  split
  · rename_i h
    rw [strOfNums_size, beL_length]
    unfold numE at h
    split at h
    · simp at h
    · omega
  · decide
theorem numsS_size (n : Int) (l : List Int) : (numsS n l).size ≤ 4 * l.length := by
  induction l with
  | nil => exact Nat.zero_le _
  | cons x l ih => have := numS_le4 x n; simp only [numsS, ByteArray.size_append, List.length_cons]; omega

set_option maxHeartbeats 2000000 in
theorem numbers_any (N b : Nat) (bs : ByteArray) (n : Int) (l : List Int) (ac : Option Addr) (cc : Nat) (w : World) (h : Bd N b bs w) (hN : N ≤ w.heap.size) (hbs : bs.size ≤ 1000000) (hll : l.length ≤ 5)
    (hi : l = [] ∨ ∃ ib o, ac = some ⟨ib, o, none⟩ ∧ Safe N b w ib ∧ ∀ i (h : i < l.length), w.cell? ⟨ib, o + i, none⟩ = some (.int .i64 l[i])) :
    Calls Tryd.prog 22 #[.pointer (some ⟨b, 0, none⟩), .int .i64 n, .slice ac l.length cc] w fun e w' => e = .returned (.tuple #[]) ∧ Bd N b (bs ++ numsS n l) w' ∧ KeptN N b w w' := by
  have HI := hide hi
  have HBD := hide h
  clear h hi
  go_enter Tryd.func22, Tryd.ntmps22
  go_wp2
  go_loopw [12] (fun i wr => ∃ k : Nat, k ≤ l.length ∧ i = .int .i64 k ∧ Hid (Bd N b (bs ++ numsS n (l.take k)) wr ∧ KeptN N b w wr)) (fun i _ => l.length - (intOf i).toNat)
  case atStart => exact ⟨0, by omega, rfl, by rw [show numsS n (l.take 0) = ⟨#[]⟩ from rfl, ba_append_nil]; exact HBD.out, KeptN.refl _ _ _⟩
  case round =>
    obtain ⟨k, hk, rfl, HR⟩ := hrel
    by_cases hlt : k < l.length
    · obtain ⟨ib, o, rfl, hsafe, hcell⟩ : ∃ ib o, ac = some ⟨ib, o, none⟩ ∧ Safe N b w ib ∧ ∀ i (h : i < l.length), w.cell? ⟨ib, o + i, none⟩ = some (.int .i64 l[i]) := by
        rcases HI.out with h0 | h0
        · subst h0; simp at hlt
        · exact h0
      have hc : wr.cell? ⟨ib, o + k, none⟩ = some (.int .i64 l[k]) := by rw [Safe.cell (p := ⟨ib, o + k, none⟩) hsafe HR.out.2]; exact hcell k hlt
      have HN := hide (numsS_snoc n l k hlt)
      have hsz : (numsS n (l.take k)).size ≤ 20 := by have := numsS_size n (l.take k); have := List.length_take_le k l; omega
      have HS := hide hsafe
      clear hcell hsafe
      generalize l[k] = x at *
      have hx4 := numS_le4 x n
      have hws := HR.out.2.size
      go_wp2_with fail
      refine (number_any x n _).mono ?_
      rintro e w1 ⟨rfl, hb1⟩
      have HB1 := hide hb1
      have hs1 := hb1.size
      clear hb1
      go_wp2_with fail
      refine (writeString_any N b _ (numS x n) _ (HR.out.1.below HB1.out) (by simp only [ByteArray.size_append]; omega) (by omega)).mono ?_
      rintro e w2 ⟨rfl, hbd2, hk2⟩
      have H2 : Hid (Bd N b (bs ++ numsS n (l.take (k + 1))) w2 ∧ KeptN N b w w2) := ⟨by rw [HN.out, ← ba_assoc]; exact hbd2, (HR.out.2.trans (KeptN.of_below HB1.out (by omega))).trans hk2⟩
      clear hbd2 hk2
      go_wp2
      go_round
      case rel => exact ⟨k + 1, by omega, by go_num, H2⟩
      case measure => simp [intOf]; omega
    · have hke : l.take k = l := List.take_of_length_le (by omega)
      have HF : Hid (Bd N b (bs ++ numsS n l) wr ∧ KeptN N b w wr) := by have := HR.out; rw [hke] at this; exact this
      clear hke HR
      go_wp2
      go_end0
      exact ⟨rfl, HF.out⟩

theorem txtS_size (t : ByteArray) : (txtS t).size ≤ 65537 := by
  unfold txtS
  split
  · decide
  · unfold textS; rw [ByteArray.size_append, strOfNums_size]; simp only [List.length_cons, List.length_nil]; omega

set_option maxHeartbeats 1000000 in
theorem wtext_any (N b : Nat) (bs t : ByteArray) (w : World) (h : Bd N b bs w) (hN : N ≤ w.heap.size) (hbs : bs.size ≤ 1000000) :
    Calls Tryd.prog 69 #[.pointer (some ⟨b, 0, none⟩), .string t] w fun e w' => e = .returned (.tuple #[]) ∧ Bd N b (bs ++ txtS t) w' ∧ KeptN N b w w' := by
  have HBD := hide h
  have ht := txtS_size t
  clear h
  go_enter Tryd.func69, Tryd.ntmps69
  go_wp2_with fail
  refine (text_any t _).mono ?_
  rintro e w1 ⟨rfl, hb1⟩
  have HB1 := hide hb1
  have hs1 := hb1.size
  clear hb1
  go_wp2_with fail
  refine (writeString_any N b _ (txtS t) _ (HBD.out.below HB1.out) (by omega) (by omega)).mono ?_
  rintro e w2 ⟨rfl, hbd2, hk2⟩
  have H2 := hide (And.intro hbd2 ((KeptN.of_below HB1.out hN).trans hk2))
  clear hbd2 hk2
  go_wp2
  go_end0
  exact ⟨rfl, H2.out⟩
end Go.Proofs.YtgmjdelgocbcaabDoor
/-
  packet.writer's connect, publish, withId and packet: what they write.
-/
namespace Go.Proofs.YtgmjdelgocbcaabDoor
open Go.RowKit Go.PlainAid

theorem box_cells {N b : Nat} {w w1 : World} {cs : Array Value} {T : TypeId} (hk : KeptN N b (w.alloc (.cells cs T)) w1) (hb : b < w.heap.size) (hT : T ≠ 5) : ∀ o, w1.cell? ⟨w.heap.size, o, none⟩ = cs[o]? := by
  intro o
  have h1 : (w.alloc (.cells cs T)).heap[w.heap.size]? = some (.cells cs T) := Go.heap_alloc_new w _
  have := hk.others w.heap.size _ h1 (by omega) (fun c fz e => hT (by simp only [Obj.cells.injEq] at e; exact e.2.1))
  simp [World.cell?, this]

theorem safe_new (N b : Nat) (w : World) (cs : Array Value) (T : TypeId) (hb : b < w.heap.size) (hT : T ≠ 5) : Safe N b (w.alloc (.cells cs T)) w.heap.size :=
  ⟨by omega, .inr ⟨_, Go.heap_alloc_new w _, fun c fz e => hT (by simp only [Obj.cells.injEq] at e; exact e.2.1)⟩⟩

theorem ints_one (N b : Nat) (w : World) (x : Int) (g : Nat) (hg : g = w.heap.size) (hb : b < w.heap.size) : [x] = [] ∨ ∃ ib o, (some ⟨g, 0, none⟩ : Option Addr) = some ⟨ib, o, none⟩ ∧ Safe N b (w.alloc (.cells #[.int .i64 x] 3)) ib ∧ ∀ i (h : i < [x].length), (w.alloc (.cells #[.int .i64 x] 3)).cell? ⟨ib, o + i, none⟩ = some (.int .i64 [x][i]) := by
  subst hg
  refine .inr ⟨_, _, rfl, safe_new N b w _ _ hb (by decide), fun i h => ?_⟩
  match i, h with
  | 0, _ => simp
theorem ints_two (N b : Nat) (w : World) (x y : Int) (g : Nat) (hg : g = w.heap.size) (hb : b < w.heap.size) : [x, y] = [] ∨ ∃ ib o, (some ⟨g, 0, none⟩ : Option Addr) = some ⟨ib, o, none⟩ ∧ Safe N b (w.alloc (.cells #[.int .i64 x, .int .i64 y] 3)) ib ∧ ∀ i (h : i < [x, y].length), (w.alloc (.cells #[.int .i64 x, .int .i64 y] 3)).cell? ⟨ib, o + i, none⟩ = some (.int .i64 [x, y][i]) := by
  subst hg
  refine .inr ⟨_, _, rfl, safe_new N b w _ _ hb (by decide), fun i h => ?_⟩
  match i, h with
  | 0, _ => simp
  | 1, _ => simp

/-- what stands behind a Connect's first byte and length -/
def connectS (p : Pk) : ByteArray := txtS ⟨#[77, 81, 84, 84]⟩ ++ numsS 1 [4, flagN p.clean 2] ++ numsS 2 [p.keep] ++ txtS p.client

set_option maxHeartbeats 2000000 in
theorem wconnect_any (N b : Nat) (p : Pk) (aa ac : Option Addr) (ca cc : Nat) (w : World) (h : Bd N b ⟨#[]⟩ w) (hN : N ≤ w.heap.size) :
    Calls Tryd.prog 48 #[.pointer (some ⟨b, 0, none⟩), pkV p aa ca ac cc] w fun e w' => e = .returned (.tuple #[]) ∧ Bd N b (connectS p) w' ∧ KeptN N b w w' := by
  have HBD := hide h
  have hb := h.lt
  clear h
  obtain ⟨k, d, r, c, s, q, i, kp, cd, cl, tp, pl, l, cs⟩ := p
  simp only [pkV, connectS]
  have z1 := txtS_size ⟨#[77, 81, 84, 84]⟩
  have z2 := numsS_size 1 [4, flagN c 2]
  have z3 := numsS_size 2 [kp]
  simp only [List.length_cons, List.length_nil] at z2 z3
  go_enter Tryd.func48, Tryd.ntmps48
  go_wp2_with fail
  refine (wtext_any N b _ ⟨#[77, 81, 84, 84]⟩ _ (HBD.out.below ((Below.refl _ _).alloc (Nat.le_refl _) _)) (by simp; omega) (by decide)).mono ?_
  rintro e w1 ⟨rfl, hbd1, hk1⟩
  rw [str_nil] at hbd1
  have hc1 := box_cells hk1 hb (by decide)
  have HD1 := hide hbd1
  have HK1 := hide hk1
  have hs1 := hk1.size
  simp only [World.size_alloc] at hs1
  clear hbd1 hk1
  go_wp2_with (go_at_call 49; refine (flag_any _ _ _).mono ?_; rintro e w' ⟨rfl, rfl⟩)
  refine (numbers_any N b _ 1 [4, flagN c 2] _ 2 _ (HD1.out.below ((Below.refl _ _).alloc (Nat.le_refl _) _)) (by simp; omega) (by omega) (by simp) (ints_two N b _ _ _ _ rfl (by omega))).mono ?_
  rintro e w2 ⟨rfl, hbd2, hk2⟩
  have hk12 := HK1.out.trans ((KeptN.of_below ((Below.refl _ _).alloc (Nat.le_refl _) _) (by omega)).trans hk2)
  have hc2 := box_cells hk12 hb (by decide)
  have HD2 := hide hbd2
  have HK2 := hide hk12
  have hs2 := hk12.size
  simp only [World.size_alloc] at hs2
  clear hbd2 hk2 hk12 HD1 HK1 hc1
  go_wp2_with fail
  refine (numbers_any N b _ 2 [kp] _ 1 _ (HD2.out.below ((Below.refl _ _).alloc (Nat.le_refl _) _)) (by simp; omega) (by simp only [ByteArray.size_append]; omega) (by simp) (ints_one N b _ _ _ rfl (by omega))).mono ?_
  rintro e w3 ⟨rfl, hbd3, hk3⟩
  have hk13 := HK2.out.trans ((KeptN.of_below ((Below.refl _ _).alloc (Nat.le_refl _) _) (by omega)).trans hk3)
  have hc3 := box_cells hk13 hb (by decide)
  have HD3 := hide hbd3
  have HK3 := hide hk13
  have hs3 := hk13.size
  simp only [World.size_alloc] at hs3
  clear hbd3 hk3 hk13 HD2 HK2 hc2
  go_wp2_with fail
  refine (wtext_any N b _ cl _ HD3.out (by omega) (by simp only [ByteArray.size_append]; omega)).mono ?_
  rintro e w4 ⟨rfl, hbd4, hk4⟩
  have HF := hide (And.intro hbd4 (((KeptN.of_below ((Below.refl _ w).alloc (Nat.le_refl _) _) hN).trans HK3.out).trans hk4))
  clear hbd4 hk4
  go_wp2
  go_end0
  exact ⟨rfl, HF.out⟩
end Go.Proofs.YtgmjdelgocbcaabDoor
