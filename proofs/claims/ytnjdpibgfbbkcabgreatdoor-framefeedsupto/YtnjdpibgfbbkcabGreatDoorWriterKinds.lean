/-
  packet.writer's numbers and text: what they write.
-/
import Derived.Test.YtnjdpibgfbbkcabGreatDoorWriterBase
import Derived.Test.YtnjdpibgfbbkcabGreatDoorWireAll
import Derived.Test.YtnjdpibgfbbkcabGreatDoorPacketAsks
import Derived.Deep.RegionWith
import Derived.Deep.QuietTactic
import Derived.BigQuiet
namespace Go.Proofs.YtnjdpibgfbbkcabGreatDoor
open Go.RowKit Go.PlainAid

/-- a block that a writer's writes leave -/
def Safe (N b : Nat) (w : World) (k : Nat) : Prop := k ≠ b ∧ (k < N ∨ ∃ o, w.heap[k]? = some o ∧ ∀ c fz, o ≠ .cells c 5 fz)
theorem Safe.same {N b k : Nat} {w w' : World} (h : Safe N b w k) (hk : KeptN N b w w') : w'.heap[k]? = w.heap[k]? := by
  rcases h.2 with h1 | ⟨o, h1, h2⟩
  · exact hk.block k h1 h.1
  · rw [hk.others k o h1 h.1 h2, h1]
theorem Safe.kept {N b k : Nat} {w w' : World} (h : Safe N b w k) (hk : KeptN N b w w') : Safe N b w' k := by
  refine ⟨h.1, ?_⟩
  rcases h.2 with h1 | ⟨o, h1, h2⟩
  · exact .inl h1
  · exact .inr ⟨o, hk.others k o h1 h.1 h2, h2⟩
theorem Safe.cell {N b : Nat} {w w' : World} {p : Addr} (h : Safe N b w p.block) (hk : KeptN N b w w') : w'.cell? p = w.cell? p := World.cell?_of_block (w := w) (h.same hk)
theorem Safe.frozen {N b : Nat} {w w' : World} {p : Addr} (h : Safe N b w p.block) (hk : KeptN N b w w') : w'.frozen? p = w.frozen? p := World.frozen?_of_block (w := w) (h.same hk)

/-- several numbers, by so many bytes each -/
def numsS (n : Int) : List Int → ByteArray
  | [] => ⟨#[]⟩
  | x :: l => numS x n ++ numsS n l

theorem ba_append_nil (s : ByteArray) : s ++ (⟨#[]⟩ : ByteArray) = s := by
  apply ByteArray.ext; apply Array.toList_inj.1; simp
theorem ba_assoc (a b c : ByteArray) : a ++ b ++ c = a ++ (b ++ c) := ByteArray.append_assoc
theorem numsS_append (n : Int) (a b : List Int) : numsS n (a ++ b) = numsS n a ++ numsS n b := by
  induction a with
  | nil => exact (str_nil _).symm
  | cons x l ih => simp only [List.cons_append, numsS, ih, ba_assoc]
theorem numsS_snoc (n : Int) (l : List Int) (k : Nat) (h : k < l.length) : numsS n (l.take (k + 1)) = numsS n (l.take k) ++ numS l[k] n := by
  rw [List.take_succ_eq_append_getElem h, numsS_append]
  simp only [numsS, ba_append_nil]
theorem numS_le4 (x n : Int) : (numS x n).size ≤ 4 := by
  unfold numS
  split
  · rename_i h
    rw [strOfNums_size, beL_length]
    unfold numE at h
    split at h
    · simp at h
    · omega
  · decide
theorem numsS_size (n : Int) (l : List Int) : (numsS n l).size ≤ 4 * l.length := by
  induction l with
  | nil => exact Nat.zero_le _
  | cons x l ih => have := numS_le4 x n; simp only [numsS, ByteArray.size_append, List.length_cons]; omega

set_option maxHeartbeats 2000000 in
theorem numbers_any (N b : Nat) (bs : ByteArray) (n : Int) (l : List Int) (ac : Option Addr) (cc : Nat) (w : World) (h : Bd N b bs w) (hN : N ≤ w.heap.size) (hbs : bs.size ≤ 1000000) (hll : l.length ≤ 5)
    (hi : l = [] ∨ ∃ ib o, ac = some ⟨ib, o, none⟩ ∧ Safe N b w ib ∧ ∀ i (h : i < l.length), w.cell? ⟨ib, o + i, none⟩ = some (.int .i64 l[i])) :
    Calls Tryz.prog 29 #[.pointer (some ⟨b, 0, none⟩), .int .i64 n, .slice ac l.length cc] w fun e w' => e = .returned (.tuple #[]) ∧ Bd N b (bs ++ numsS n l) w' ∧ KeptN N b w w' := by
  have HI := hide hi
  have HBD := hide h
  clear h hi
  go_enter Tryz.func29, Tryz.ntmps29
  go_wp2
  go_loopw [12] (fun i wr => ∃ k : Nat, k ≤ l.length ∧ i = .int .i64 k ∧ Hid (Bd N b (bs ++ numsS n (l.take k)) wr ∧ KeptN N b w wr)) (fun i _ => l.length - (intOf i).toNat)
  case atStart => exact ⟨0, by omega, rfl, by rw [show numsS n (l.take 0) = ⟨#[]⟩ from rfl, ba_append_nil]; exact HBD.out, KeptN.refl _ _ _⟩
  case round =>
    obtain ⟨k, hk, rfl, HR⟩ := hrel
    by_cases hlt : k < l.length
    · obtain ⟨ib, o, rfl, hsafe, hcell⟩ : ∃ ib o, ac = some ⟨ib, o, none⟩ ∧ Safe N b w ib ∧ ∀ i (h : i < l.length), w.cell? ⟨ib, o + i, none⟩ = some (.int .i64 l[i]) := by
        rcases HI.out with h0 | h0
        · subst h0; simp at hlt
        · exact h0
      have hc : wr.cell? ⟨ib, o + k, none⟩ = some (.int .i64 l[k]) := by rw [Safe.cell (p := ⟨ib, o + k, none⟩) hsafe HR.out.2]; exact hcell k hlt
      have HN := hide (numsS_snoc n l k hlt)
      have hsz : (numsS n (l.take k)).size ≤ 20 := by have := numsS_size n (l.take k); have := List.length_take_le k l; omega
      have HS := hide hsafe
      clear hcell hsafe
      generalize l[k] = x at *
      have hx4 := numS_le4 x n
      have hws := HR.out.2.size
      go_wp2_with fail
      refine (number_any x n _).mono ?_
      rintro e w1 ⟨rfl, hb1⟩
      have HB1 := hide hb1
      have hs1 := hb1.size
      clear hb1
      go_wp2_with fail
      refine (writeString_any N b _ (numS x n) _ (HR.out.1.below HB1.out) (by simp only [ByteArray.size_append]; omega) (by omega)).mono ?_
      rintro e w2 ⟨rfl, hbd2, hk2⟩
      have H2 : Hid (Bd N b (bs ++ numsS n (l.take (k + 1))) w2 ∧ KeptN N b w w2) := ⟨by rw [HN.out, ← ba_assoc]; exact hbd2, (HR.out.2.trans (KeptN.of_below HB1.out (by omega))).trans hk2⟩
      clear hbd2 hk2
      go_wp2
      go_round
      case rel => exact ⟨k + 1, by omega, by go_num, H2⟩
      case measure => simp [intOf]; omega
    · have hke : l.take k = l := List.take_of_length_le (by omega)
      have HF : Hid (Bd N b (bs ++ numsS n l) wr ∧ KeptN N b w wr) := by have := HR.out; rw [hke] at this; exact this
      clear hke HR
      go_wp2
      go_end0
      exact ⟨rfl, HF.out⟩

theorem txtS_size (t : ByteArray) : (txtS t).size ≤ 65537 := by
  unfold txtS
  split
  · decide
  · unfold textS; rw [ByteArray.size_append, strOfNums_size]; simp only [List.length_cons, List.length_nil]; omega

set_option maxHeartbeats 1000000 in
theorem wtext_any (N b : Nat) (bs t : ByteArray) (w : World) (h : Bd N b bs w) (hN : N ≤ w.heap.size) (hbs : bs.size ≤ 1000000) :
    Calls Tryz.prog 74 #[.pointer (some ⟨b, 0, none⟩), .string t] w fun e w' => e = .returned (.tuple #[]) ∧ Bd N b (bs ++ txtS t) w' ∧ KeptN N b w w' := by
  have HBD := hide h
  have ht := txtS_size t
  clear h
  go_enter Tryz.func74, Tryz.ntmps74
  go_wp2_with fail
  refine (text_any t _).mono ?_
  rintro e w1 ⟨rfl, hb1⟩
  have HB1 := hide hb1
  have hs1 := hb1.size
  clear hb1
  go_wp2_with fail
  refine (writeString_any N b _ (txtS t) _ (HBD.out.below HB1.out) (by omega) (by omega)).mono ?_
  rintro e w2 ⟨rfl, hbd2, hk2⟩
  have H2 := hide (And.intro hbd2 ((KeptN.of_below HB1.out hN).trans hk2))
  clear hbd2 hk2
  go_wp2
  go_end0
  exact ⟨rfl, H2.out⟩
end Go.Proofs.YtnjdpibgfbbkcabGreatDoor
/-
  packet.writer's connect, publish, withId and packet: what they write.
-/
namespace Go.Proofs.YtnjdpibgfbbkcabGreatDoor
open Go.RowKit Go.PlainAid

theorem box_cells {N b : Nat} {w w1 : World} {cs : Array Value} {T : TypeId} (hk : KeptN N b (w.alloc (.cells cs T)) w1) (hb : b < w.heap.size) (hT : T ≠ 5) : ∀ o, w1.cell? ⟨w.heap.size, o, none⟩ = cs[o]? := by
  intro o
  have h1 : (w.alloc (.cells cs T)).heap[w.heap.size]? = some (.cells cs T) := Go.heap_alloc_new w _
  have := hk.others w.heap.size _ h1 (by omega) (fun c fz e => hT (by simp only [Obj.cells.injEq] at e; exact e.2.1))
  simp [World.cell?, this]

theorem safe_new (N b : Nat) (w : World) (cs : Array Value) (T : TypeId) (hb : b < w.heap.size) (hT : T ≠ 5) : Safe N b (w.alloc (.cells cs T)) w.heap.size :=
  ⟨by omega, .inr ⟨_, Go.heap_alloc_new w _, fun c fz e => hT (by simp only [Obj.cells.injEq] at e; exact e.2.1)⟩⟩

theorem ints_one (N b : Nat) (w : World) (x : Int) (g : Nat) (hg : g = w.heap.size) (hb : b < w.heap.size) : [x] = [] ∨ ∃ ib o, (some ⟨g, 0, none⟩ : Option Addr) = some ⟨ib, o, none⟩ ∧ Safe N b (w.alloc (.cells #[.int .i64 x] 3)) ib ∧ ∀ i (h : i < [x].length), (w.alloc (.cells #[.int .i64 x] 3)).cell? ⟨ib, o + i, none⟩ = some (.int .i64 [x][i]) := by
  subst hg
  refine .inr ⟨_, _, rfl, safe_new N b w _ _ hb (by decide), fun i h => ?_⟩
  match i, h with
  | 0, _ => simp
theorem ints_two (N b : Nat) (w : World) (x y : Int) (g : Nat) (hg : g = w.heap.size) (hb : b < w.heap.size) : [x, y] = [] ∨ ∃ ib o, (some ⟨g, 0, none⟩ : Option Addr) = some ⟨ib, o, none⟩ ∧ Safe N b (w.alloc (.cells #[.int .i64 x, .int .i64 y] 3)) ib ∧ ∀ i (h : i < [x, y].length), (w.alloc (.cells #[.int .i64 x, .int .i64 y] 3)).cell? ⟨ib, o + i, none⟩ = some (.int .i64 [x, y][i]) := by
  subst hg
  refine .inr ⟨_, _, rfl, safe_new N b w _ _ hb (by decide), fun i h => ?_⟩
  match i, h with
  | 0, _ => simp
  | 1, _ => simp

/-- what stands behind a Connect's first byte and length -/
def connectS (p : Pk) : ByteArray := txtS ⟨#[77, 81, 84, 84]⟩ ++ numsS 1 [4, flagN p.clean 2] ++ numsS 2 [p.keep] ++ txtS p.client

set_option maxHeartbeats 2000000 in
theorem wconnect_any (N b : Nat) (p : Pk) (aa ac : Option Addr) (ca cc : Nat) (w : World) (h : Bd N b ⟨#[]⟩ w) (hN : N ≤ w.heap.size) :
    Calls Tryz.prog 52 #[.pointer (some ⟨b, 0, none⟩), pkV p aa ca ac cc] w fun e w' => e = .returned (.tuple #[]) ∧ Bd N b (connectS p) w' ∧ KeptN N b w w' := by
  have HBD := hide h
  have hb := h.lt
  clear h
  obtain ⟨k, d, r, c, s, q, i, kp, cd, cl, tp, pl, l, cs⟩ := p
  simp only [pkV, connectS]
  have z1 := txtS_size ⟨#[77, 81, 84, 84]⟩
  have z2 := numsS_size 1 [4, flagN c 2]
  have z3 := numsS_size 2 [kp]
  simp only [List.length_cons, List.length_nil] at z2 z3
  go_enter Tryz.func52, Tryz.ntmps52
  go_wp2_with fail
  refine (wtext_any N b _ ⟨#[77, 81, 84, 84]⟩ _ (HBD.out.below ((Below.refl _ _).alloc (Nat.le_refl _) _)) (by simp; omega) (by decide)).mono ?_
  rintro e w1 ⟨rfl, hbd1, hk1⟩
  rw [str_nil] at hbd1
  have hc1 := box_cells hk1 hb (by decide)
  have HD1 := hide hbd1
  have HK1 := hide hk1
  have hs1 := hk1.size
  simp only [World.size_alloc] at hs1
  clear hbd1 hk1
  go_wp2_with (go_at_call 53; refine (flag_any _ _ _).mono ?_; rintro e w' ⟨rfl, rfl⟩)
  refine (numbers_any N b _ 1 [4, flagN c 2] _ 2 _ (HD1.out.below ((Below.refl _ _).alloc (Nat.le_refl _) _)) (by simp; omega) (by omega) (by simp) (ints_two N b _ _ _ _ rfl (by omega))).mono ?_
  rintro e w2 ⟨rfl, hbd2, hk2⟩
  have hk12 := HK1.out.trans ((KeptN.of_below ((Below.refl _ _).alloc (Nat.le_refl _) _) (by omega)).trans hk2)
  have hc2 := box_cells hk12 hb (by decide)
  have HD2 := hide hbd2
  have HK2 := hide hk12
  have hs2 := hk12.size
  simp only [World.size_alloc] at hs2
  clear hbd2 hk2 hk12 HD1 HK1 hc1
  go_wp2_with fail
  refine (numbers_any N b _ 2 [kp] _ 1 _ (HD2.out.below ((Below.refl _ _).alloc (Nat.le_refl _) _)) (by simp; omega) (by simp only [ByteArray.size_append]; omega) (by simp) (ints_one N b _ _ _ rfl (by omega))).mono ?_
  rintro e w3 ⟨rfl, hbd3, hk3⟩
  have hk13 := HK2.out.trans ((KeptN.of_below ((Below.refl _ _).alloc (Nat.le_refl _) _) (by omega)).trans hk3)
  have hc3 := box_cells hk13 hb (by decide)
  have HD3 := hide hbd3
  have HK3 := hide hk13
  have hs3 := hk13.size
  simp only [World.size_alloc] at hs3
  clear hbd3 hk3 hk13 HD2 HK2 hc2
  go_wp2_with fail
  refine (wtext_any N b _ cl _ HD3.out (by omega) (by simp only [ByteArray.size_append]; omega)).mono ?_
  rintro e w4 ⟨rfl, hbd4, hk4⟩
  have HF := hide (And.intro hbd4 (((KeptN.of_below ((Below.refl _ w).alloc (Nat.le_refl _) _) hN).trans HK3.out).trans hk4))
  clear hbd4 hk4
  go_wp2
  go_end0
  exact ⟨rfl, HF.out⟩
end Go.Proofs.YtnjdpibgfbbkcabGreatDoor
/-
  packet.writer's publish: what it writes.
-/
namespace Go.Proofs.YtnjdpibgfbbkcabGreatDoor
open Go.RowKit Go.PlainAid

/-- what stands behind a Publish's first byte and length -/
def publishS (p : Pk) : ByteArray := txtS p.topic ++ (if p.qos = 1 then numsS 2 [p.id] else ⟨#[]⟩) ++ p.payload

set_option maxHeartbeats 2000000 in
theorem wpublish_any (N b : Nat) (p : Pk) (aa ac : Option Addr) (ca cc : Nat) (w : World) (h : Bd N b ⟨#[]⟩ w) (hN : N ≤ w.heap.size) (hpl : p.payload.size ≤ 200) :
    Calls Tryz.prog 54 #[.pointer (some ⟨b, 0, none⟩), pkV p aa ca ac cc] w fun e w' => e = .returned (.tuple #[]) ∧ Bd N b (publishS p) w' ∧ KeptN N b w w' := by
  have HBD := hide h
  have hb := h.lt
  clear h
  generalize hP : publishS p = P
  obtain ⟨k, d, r, c, s, q, i, kp, cd, cl, tp, pl, l, cs⟩ := p
  simp only [publishS] at hP
  simp only [pkV]
  simp only at hpl
  have z1 := txtS_size tp
  have z3 := numsS_size 2 [i]
  simp only [List.length_cons, List.length_nil] at z3
  by_cases hq : q = 1
  · rw [if_pos hq] at hP
    have HP := hide hP.symm
    have hq1 : (q == 1) = true := by simp [hq]
    clear hP hq
    go_enter Tryz.func54, Tryz.ntmps54
    go_wp2_with fail
    refine (wtext_any N b _ tp _ (HBD.out.below ((Below.refl _ _).alloc (Nat.le_refl _) _)) (by simp; omega) (by decide)).mono ?_
    rintro e w1 ⟨rfl, hbd1, hk1⟩
    rw [str_nil] at hbd1
    have hc1 := box_cells hk1 hb (by decide)
    have HD1 := hide hbd1
    have HK1 := hide hk1
    have hs1 := hk1.size
    simp only [World.size_alloc] at hs1
    clear hbd1 hk1
    go_wp2_with fail
    refine (numbers_any N b _ 2 [i] _ 1 _ (HD1.out.below ((Below.refl _ _).alloc (Nat.le_refl _) _)) (by simp; omega) (by omega) (by simp) (ints_one N b _ _ _ rfl (by omega))).mono ?_
    rintro e w3 ⟨rfl, hbd3, hk3⟩
    have hk13 := HK1.out.trans ((KeptN.of_below ((Below.refl _ _).alloc (Nat.le_refl _) _) (by omega)).trans hk3)
    have hc3 := box_cells hk13 hb (by decide)
    have HD3 := hide hbd3
    have HK3 := hide hk13
    have hs3 := hk13.size
    simp only [World.size_alloc] at hs3
    clear hbd3 hk3 hk13 HK1 hc1
    go_wp2_with fail
    go_region_with (go_at_call 31; refine (writeString_any N b _ pl _ (HD3.out.below (Below.drew (Below.refl _ _))) (by simp only [ByteArray.size_append]; omega) (by first | omega | (simp; omega))).mono ?_; rintro e w4 ⟨rfl, hbd4, hk4⟩)
    all_goals
      have HF := hide (And.intro hbd4 (((KeptN.of_below ((Below.refl _ w).alloc (Nat.le_refl _) _) hN).trans HK3.out).trans ((KeptN.of_below (Below.drew (Below.refl _ _)) (by omega)).trans hk4)))
      clear hbd4 hk4
      go_wp2
      go_end0
      exact ⟨rfl, by rw [HP.out]; exact HF.out.1, HF.out.2⟩
  · rw [if_neg hq, ba_append_nil] at hP
    have HP := hide hP.symm
    have hq1 : (q == 1) = false := by simp [hq]
    clear hP hq
    go_enter Tryz.func54, Tryz.ntmps54
    go_wp2_with fail
    refine (wtext_any N b _ tp _ (HBD.out.below ((Below.refl _ _).alloc (Nat.le_refl _) _)) (by simp; omega) (by decide)).mono ?_
    rintro e w1 ⟨rfl, hbd1, hk1⟩
    rw [str_nil] at hbd1
    have hc1 := box_cells hk1 hb (by decide)
    have HD1 := hide hbd1
    have HK1 := hide hk1
    have hs1 := hk1.size
    simp only [World.size_alloc] at hs1
    clear hbd1 hk1
    go_wp2_with fail
    go_region_with (go_at_call 31; refine (writeString_any N b _ pl _ (HD1.out.below (Below.drew (Below.refl _ _))) (by omega) (by first | omega | (simp; omega))).mono ?_; rintro e w4 ⟨rfl, hbd4, hk4⟩)
    all_goals
      have HF := hide (And.intro hbd4 (((KeptN.of_below ((Below.refl _ w).alloc (Nat.le_refl _) _) hN).trans HK1.out).trans ((KeptN.of_below (Below.drew (Below.refl _ _)) (by omega)).trans hk4)))
      clear hbd4 hk4
      go_wp2
      go_end0
      exact ⟨rfl, by rw [HP.out]; exact HF.out.1, HF.out.2⟩
end Go.Proofs.YtnjdpibgfbbkcabGreatDoor
/-
  packet.writer's withId: what it writes.
-/
namespace Go.Proofs.YtnjdpibgfbbkcabGreatDoor
open Go.RowKit Go.PlainAid

/-- an ask -/
def askS (kind : Int) (a : ByteArray × Int) : ByteArray := txtS a.1 ++ (if kind = 8 then numsS 1 [a.2] else ⟨#[]⟩)
def asksS (kind : Int) : List (ByteArray × Int) → ByteArray
  | [] => ⟨#[]⟩
  | a :: l => askS kind a ++ asksS kind l
/-- what stands behind first byte and length of those with an Id, lists and all -/
def withIdS (p : Pk) : ByteArray := numsS 2 [p.id] ++ asksS p.kind p.asks ++ numsS 1 p.codes

theorem asksS_append (k : Int) (a b : List (ByteArray × Int)) : asksS k (a ++ b) = asksS k a ++ asksS k b := by
  induction a with
  | nil => exact (str_nil _).symm
  | cons x l ih => simp only [List.cons_append, asksS, ih, ba_assoc]
theorem asksS_snoc (k : Int) (l : List (ByteArray × Int)) (n : Nat) (h : n < l.length) : asksS k (l.take (n + 1)) = asksS k (l.take n) ++ askS k l[n] := by
  rw [List.take_succ_eq_append_getElem h, asksS_append]
  simp only [asksS, ba_append_nil]
theorem askS_size (k : Int) (a : ByteArray × Int) : (askS k a).size ≤ 65541 := by
  have h1 := txtS_size a.1
  have h2 := numsS_size 1 [a.2]
  simp only [List.length_cons, List.length_nil] at h2
  unfold askS
  rw [ByteArray.size_append]
  split
  · omega
  · show _ + 0 ≤ _; omega
theorem asksS_size (k : Int) (l : List (ByteArray × Int)) : (asksS k l).size ≤ 65541 * l.length := by
  induction l with
  | nil => exact Nat.zero_le _
  | cons x l ih => have := askS_size k x; simp only [asksS, ByteArray.size_append, List.length_cons]; omega

set_option maxHeartbeats 2000000 in
theorem wwithId_any (N b : Nat) (p : Pk) (aa ac : Option Addr) (ca cc : Nat) (w : World) (h : Bd N b ⟨#[]⟩ w) (hN : N ≤ w.heap.size) (hla : p.asks.length ≤ 5) (hlc : p.codes.length ≤ 5)
    (hA : p.asks = [] ∨ ∃ ib o, aa = some ⟨ib, o, none⟩ ∧ Safe N b w ib ∧ ib < w.heap.size ∧ ∀ i (h : i < p.asks.length), w.cell? ⟨ib, o + i * 2, none⟩ = some (.string p.asks[i].1) ∧ w.cell? ⟨ib, o + i * 2 + 1, none⟩ = some (.int .i64 p.asks[i].2))
    (hI : p.codes = [] ∨ ∃ ib o, ac = some ⟨ib, o, none⟩ ∧ Safe N b w ib ∧ ib < w.heap.size ∧ ∀ i (h : i < p.codes.length), w.cell? ⟨ib, o + i, none⟩ = some (.int .i64 p.codes[i])) :
    Calls Tryz.prog 55 #[.pointer (some ⟨b, 0, none⟩), pkV p aa ca ac cc] w fun e w' => e = .returned (.tuple #[]) ∧ Bd N b (withIdS p) w' ∧ KeptN N b w w' := by
  have HBD := hide h
  have hb := h.lt
  clear h
  generalize hP : withIdS p = P
  obtain ⟨k, d, r, c, s, q, i, kp, cd, cl, tp, pl, l, cs⟩ := p
  simp only [withIdS] at hP
  have HP := hide hP.symm
  have HA := hide hA
  have HI := hide hI
  clear hP hA hI
  simp only [pkV]
  simp only at hla hlc HA HI
  have z3 := numsS_size 2 [i]
  simp only [List.length_cons, List.length_nil] at z3
  go_enter Tryz.func55, Tryz.ntmps55
  go_wp2_with fail
  refine (numbers_any N b _ 2 [i] _ 1 _ ((HBD.out.below ((Below.refl _ _).alloc (Nat.le_refl _) _)).below ((Below.refl _ _).alloc (Nat.le_refl _) _)) (by simp; omega) (by decide) (by simp) (ints_one N b _ _ _ (by simp) (by simp; omega))).mono ?_
  rintro e w1 ⟨rfl, hbd1, hk1⟩
  rw [str_nil] at hbd1
  have hkk1 := (KeptN.of_below ((Below.refl _ _).alloc (Nat.le_refl _) _) (by simp; omega)).trans hk1
  have hc1 := box_cells hkk1 hb (by decide)
  have HD1 := hide hbd1
  have HK1 := hide hkk1
  have hs1 := hkk1.size
  simp only [World.size_alloc] at hs1
  clear hbd1 hk1 hkk1
  go_wp2_with fail
  go_loopw [14] (fun x wr => ∃ n : Nat, n ≤ l.length ∧ x = .int .i64 n ∧ Hid (Bd N b (numsS 2 [i] ++ asksS k (l.take n)) wr ∧ KeptN N b w1 wr)) (fun x _ => l.length - (intOf x).toNat)
  case atStart => exact ⟨0, by omega, rfl, by rw [show asksS k (l.take 0) = ⟨#[]⟩ from rfl, ba_append_nil]; exact HD1.out, KeptN.refl _ _ _⟩
  case round =>
    obtain ⟨n, hn, rfl, HR⟩ := hrel
    have hws := HR.out.2.size
    have hcr := box_cells (HK1.out.trans HR.out.2) hb (by decide)
    have hsz : (asksS k (l.take n)).size ≤ 327705 := by have := asksS_size k (l.take n); have := List.length_take_le n l; omega
    by_cases hlt : n < l.length
    · obtain ⟨ib, o, rfl, hsafe, hibl, hcell⟩ : ∃ ib o, aa = some ⟨ib, o, none⟩ ∧ Safe N b w ib ∧ ib < w.heap.size ∧ ∀ i (h : i < l.length), w.cell? ⟨ib, o + i * 2, none⟩ = some (.string l[i].1) ∧ w.cell? ⟨ib, o + i * 2 + 1, none⟩ = some (.int .i64 l[i].2) := by
        rcases HA.out with h0 | h0
        · subst h0; simp at hlt
        · exact h0
      have hkw : KeptN N b w wr := ((KeptN.of_below ((Below.refl _ _).alloc (Nat.le_refl _) _) hN).trans HK1.out).trans HR.out.2
      have hx1 : wr.cell? ⟨ib, o + n * 2, none⟩ = some (.string l[n].1) := by rw [Safe.cell (p := ⟨ib, _, none⟩) hsafe hkw]; exact (hcell n hlt).1
      have hx2 : wr.cell? ⟨ib, o + n * 2 + 1, none⟩ = some (.int .i64 l[n].2) := by rw [Safe.cell (p := ⟨ib, _, none⟩) hsafe hkw]; exact (hcell n hlt).2
      have HN := hide (asksS_snoc k l n hlt)
      clear hcell hsafe hkw hc1
      generalize l[n] = x at *
      obtain ⟨f, y⟩ := x
      simp only at hx1 hx2
      have hf := txtS_size f
      go_wp2_with fail
      refine (wtext_any N b _ f _ (HR.out.1.below ((Below.refl _ _).alloc (Nat.le_refl _) _)) (by simp; omega) (by simp only [ByteArray.size_append]; omega)).mono ?_
      rintro e w2 ⟨rfl, hbd2, hk2⟩
      have ha2 := box_cells hk2 (by omega) (by decide)
      have hk02 := (KeptN.of_below ((Below.refl _ wr).alloc (Nat.le_refl _) _) (by omega)).trans hk2
      have hc2 := box_cells ((HK1.out.trans HR.out.2).trans hk02) hb (by decide)
      have HD2 := hide hbd2
      have HK2 := hide (HR.out.2.trans hk02)
      have hs2 := hk02.size
      clear hbd2 hk2 hk02 HR hcr
      by_cases h8 : k = 8
      · have h8' : (k == 8) = true := by simp [h8]
        have HS : Hid (askS k (f, y) = txtS f ++ numsS 1 [y]) := by show _ = _; unfold askS; rw [if_pos h8]
        clear h8
        go_wp2_with fail
        refine (numbers_any N b _ 1 [y] _ 1 _ (HD2.out.below ((Below.refl _ _).alloc (Nat.le_refl _) _)) (by simp; omega) (by simp only [ByteArray.size_append]; omega) (by simp) (ints_one N b _ _ _ rfl (by omega))).mono ?_
        rintro e w3 ⟨rfl, hbd3, hk3⟩
        have HF : Hid (Bd N b (numsS 2 [i] ++ asksS k (l.take (n + 1))) w3 ∧ KeptN N b w1 w3) :=
          ⟨by rw [HN.out, HS.out, ← ba_assoc, ← ba_assoc]; exact hbd3, HK2.out.trans ((KeptN.of_below ((Below.refl _ _).alloc (Nat.le_refl _) _) (by omega)).trans hk3)⟩
        clear hbd3 hk3
        go_wp2
        go_round
        case rel => exact ⟨n + 1, by omega, by go_num, HF⟩
        case measure => simp [intOf]; omega
      · have h8' : (k == 8) = false := by simp [h8]
        have HS : Hid (askS k (f, y) = txtS f) := by show _ = _; unfold askS; rw [if_neg h8, ba_append_nil]
        have HF : Hid (Bd N b (numsS 2 [i] ++ asksS k (l.take (n + 1))) w2 ∧ KeptN N b w1 w2) := ⟨by rw [HN.out, HS.out, ← ba_assoc]; exact HD2.out, HK2.out⟩
        clear h8
        go_wp2
        go_round
        case rel => exact ⟨n + 1, by omega, by go_num, HF⟩
        case measure => simp [intOf]; omega
    · have hke : l.take n = l := List.take_of_length_le (by omega)
      rw [hke] at hsz
      have HF : Hid (Bd N b (numsS 2 [i] ++ asksS k l) wr ∧ KeptN N b w1 wr) := by have := HR.out; rw [hke] at this; exact this
      have hkw : KeptN N b w wr := ((KeptN.of_below ((Below.refl _ _).alloc (Nat.le_refl _) _) hN).trans HK1.out).trans HR.out.2
      have HW := hide hkw
      have HI2 : Hid (cs = [] ∨ ∃ ib o, ac = some ⟨ib, o, none⟩ ∧ Safe N b wr ib ∧ ∀ i (h : i < cs.length), wr.cell? ⟨ib, o + i, none⟩ = some (.int .i64 cs[i])) := by
        rcases HI.out with h0 | ⟨ib, o, h0, h1, h2, h3⟩
        · exact .inl h0
        · exact .inr ⟨ib, o, h0, h1.kept hkw, fun i hi => by rw [Safe.cell (p := ⟨ib, _, none⟩) h1 hkw]; exact h3 i hi⟩
      clear hke HR hkw hc1
      go_wp2_with fail
      refine (numbers_any N b _ 1 cs ac cc _ HF.out.1 (by omega) (by simp only [ByteArray.size_append]; omega) hlc HI2.out).mono ?_
      rintro e w3 ⟨rfl, hbd3, hk3⟩
      have HFF := hide (And.intro hbd3 (HW.out.trans hk3))
      clear hbd3 hk3
      go_wp2
      go_end0
      exact ⟨rfl, by rw [HP.out]; exact HFF.out.1, HFF.out.2⟩
end Go.Proofs.YtnjdpibgfbbkcabGreatDoor
/-
  packet.writer's packet: what it writes; packet.first.
-/
namespace Go.Proofs.YtnjdpibgfbbkcabGreatDoor
open Go.RowKit Go.PlainAid

/-- what stands behind a packet's first byte and length -/
def bodyS (p : Pk) : ByteArray :=
  if p.kind = 1 then connectS p else if p.kind = 2 then numsS 1 [flagN p.session 1, p.code] else if p.kind = 3 then publishS p
  else if p.kind = 12 ∨ p.kind = 13 ∨ p.kind = 14 then ⟨#[]⟩ else withIdS p
/-- a packet's first byte -/
def firstN (p : Pk) : Int :=
  if p.kind = 3 then p.kind * 16 + (flagN p.dup 8 + p.qos * 2 + flagN p.retain 1) else if p.kind = 8 ∨ p.kind = 10 then p.kind * 16 + 2 else p.kind * 16

theorem flagN_le (b : Bool) (n : Int) (h : 0 ≤ n) : 0 ≤ flagN b n ∧ flagN b n ≤ n := by cases b <;> simp [flagN, h]

set_option maxHeartbeats 2000000 in
theorem wpacket_any (N b : Nat) (p : Pk) (aa ac : Option Addr) (ca cc : Nat) (w : World) (h : Bd N b ⟨#[]⟩ w) (hN : N ≤ w.heap.size) (hpl : p.payload.size ≤ 200) (hla : p.asks.length ≤ 5) (hlc : p.codes.length ≤ 5)
    (hA : p.asks = [] ∨ ∃ ib o, aa = some ⟨ib, o, none⟩ ∧ Safe N b w ib ∧ ib < w.heap.size ∧ ∀ i (h : i < p.asks.length), w.cell? ⟨ib, o + i * 2, none⟩ = some (.string p.asks[i].1) ∧ w.cell? ⟨ib, o + i * 2 + 1, none⟩ = some (.int .i64 p.asks[i].2))
    (hI : p.codes = [] ∨ ∃ ib o, ac = some ⟨ib, o, none⟩ ∧ Safe N b w ib ∧ ib < w.heap.size ∧ ∀ i (h : i < p.codes.length), w.cell? ⟨ib, o + i, none⟩ = some (.int .i64 p.codes[i])) :
    Calls Tryz.prog 26 #[.pointer (some ⟨b, 0, none⟩), pkV p aa ca ac cc] w fun e w' => e = .returned (.tuple #[]) ∧ Bd N b (bodyS p) w' ∧ KeptN N b w w' := by
  have HBD := hide h
  have hb := h.lt
  clear h
  generalize hP : bodyS p = P
  simp only [bodyS] at hP
  by_cases h1 : p.kind = 1
  · rw [if_pos h1] at hP
    have C : Hid (∀ W, Bd N b ⟨#[]⟩ W → N ≤ W.heap.size → Calls Tryz.prog 52 #[.pointer (some ⟨b, 0, none⟩), pkV p aa ca ac cc] W fun e w' => e = .returned (.tuple #[]) ∧ Bd N b P w' ∧ KeptN N b W w') := fun W x y => by rw [← hP]; exact wconnect_any N b p aa ac ca cc W x y
    clear hP hA hI hpl hla hlc
    obtain ⟨k, d, r, c, s, q, i, kp, cd, cl, tp, pl, l, cs⟩ := p
    simp only [pkV] at *
    subst h1
    go_enter Tryz.func26, Tryz.ntmps26
    go_wp2_with fail
    refine (C.out _ (HBD.out.below ((Below.refl _ _).alloc (Nat.le_refl _) _)) (by simp; omega)).mono ?_
    rintro e w1 ⟨rfl, hbd1, hk1⟩
    have HF := hide (And.intro hbd1 ((KeptN.of_below ((Below.refl _ w).alloc (Nat.le_refl _) _) hN).trans hk1))
    clear hbd1 hk1
    go_wp2
    go_end0
    exact ⟨rfl, HF.out⟩
  · rw [if_neg h1] at hP
    by_cases h2 : p.kind = 2
    · rw [if_pos h2] at hP
      have HP := hide hP.symm
      clear hP hA hI hpl hla hlc h1
      obtain ⟨k, d, r, c, s, q, i, kp, cd, cl, tp, pl, l, cs⟩ := p
      simp only [pkV] at *
      subst h2
      go_enter Tryz.func26, Tryz.ntmps26
      go_wp2_with fail
      go_region_with (first | (go_at_call 53; refine (flag_any _ _ _).mono ?_; rintro e w' ⟨rfl, rfl⟩) | (go_at_call 29; refine (numbers_any N b _ 1 [flagN s 1, cd] _ 2 _ ((HBD.out.below (Below.drew ((Below.refl _ _).alloc (Nat.le_refl _) _))).below ((Below.refl _ _).alloc (Nat.le_refl _) _)) (by simp; omega) (by decide) (by simp) (ints_two N b _ _ _ _ (by simp) (by simp; omega))).mono ?_; rintro e w1 ⟨rfl, hbd1, hk1⟩))
      all_goals
        rw [str_nil] at hbd1
        have HF := hide (And.intro hbd1 (((KeptN.of_below (Below.drew ((Below.refl _ w).alloc (Nat.le_refl _) _)) hN).trans (KeptN.of_below ((Below.refl _ _).alloc (Nat.le_refl _) _) (by simp; omega))).trans hk1))
        clear hbd1 hk1
        go_wp2
        go_end0
        exact ⟨rfl, by rw [HP.out]; exact HF.out.1, HF.out.2⟩
    · rw [if_neg h2] at hP
      by_cases h3 : p.kind = 3
      · rw [if_pos h3] at hP
        have C : Hid (∀ W, Bd N b ⟨#[]⟩ W → N ≤ W.heap.size → Calls Tryz.prog 54 #[.pointer (some ⟨b, 0, none⟩), pkV p aa ca ac cc] W fun e w' => e = .returned (.tuple #[]) ∧ Bd N b P w' ∧ KeptN N b W w') := fun W x y => by rw [← hP]; exact wpublish_any N b p aa ac ca cc W x y hpl
        clear hP hA hI hpl hla hlc h1 h2
        obtain ⟨k, d, r, c, s, q, i, kp, cd, cl, tp, pl, l, cs⟩ := p
        simp only [pkV] at *
        subst h3
        go_enter Tryz.func26, Tryz.ntmps26
        go_wp2_with fail
        refine (C.out _ (HBD.out.below ((Below.refl _ _).alloc (Nat.le_refl _) _)) (by simp; omega)).mono ?_
        rintro e w1 ⟨rfl, hbd1, hk1⟩
        have HF := hide (And.intro hbd1 ((KeptN.of_below ((Below.refl _ w).alloc (Nat.le_refl _) _) hN).trans hk1))
        clear hbd1 hk1
        go_wp2
        go_end0
        exact ⟨rfl, HF.out⟩
      · rw [if_neg h3] at hP
        by_cases h4 : p.kind = 12 ∨ p.kind = 13 ∨ p.kind = 14
        · rw [if_pos h4] at hP
          have HP := hide hP.symm
          clear hP hA hI hpl hla hlc h1 h2 h3
          obtain ⟨k, d, r, c, s, q, i, kp, cd, cl, tp, pl, l, cs⟩ := p
          simp only [pkV] at *
          rcases h4 with rfl | rfl | rfl
          all_goals
            go_enter Tryz.func26, Tryz.ntmps26
            go_wp2
            go_end0
            exact ⟨rfl, by rw [HP.out]; exact HBD.out.below ((Below.refl _ _).alloc (Nat.le_refl _) _), KeptN.of_below ((Below.refl _ w).alloc (Nat.le_refl _) _) hN⟩
        · rw [if_neg h4] at hP
          have e1 : (p.kind == 1) = false := by simp; omega
          have e2 : (p.kind == 2) = false := by simp; omega
          have e3 : (p.kind == 3) = false := by simp; omega
          have e12 : (p.kind == 12) = false := by simp; omega
          have e13 : (p.kind == 13) = false := by simp; omega
          have e14 : (p.kind == 14) = false := by simp; omega
          have C : Hid (∀ W, Bd N b ⟨#[]⟩ W → Below w.heap.size w W → Calls Tryz.prog 55 #[.pointer (some ⟨b, 0, none⟩), pkV p aa ca ac cc] W fun e w' => e = .returned (.tuple #[]) ∧ Bd N b P w' ∧ KeptN N b W w') := fun W x y => by
            rw [← hP]
            have hk : KeptN N b w W := KeptN.of_below y hN
            have hs := y.size
            refine wwithId_any N b p aa ac ca cc W x (by omega) hla hlc ?_ ?_
            · rcases hA with h0 | ⟨ib, o, g0, g1, g2, g3⟩
              · exact .inl h0
              · exact .inr ⟨ib, o, g0, g1.kept hk, by omega, fun i hi => by rw [Safe.cell (p := ⟨ib, _, none⟩) g1 hk, Safe.cell (p := ⟨ib, _, none⟩) g1 hk]; exact g3 i hi⟩
            · rcases hI with h0 | ⟨ib, o, g0, g1, g2, g3⟩
              · exact .inl h0
              · exact .inr ⟨ib, o, g0, g1.kept hk, by omega, fun i hi => by rw [Safe.cell (p := ⟨ib, _, none⟩) g1 hk]; exact g3 i hi⟩
          clear hP hA hI hpl hla hlc h1 h2 h3 h4
          obtain ⟨k, d, r, c, s, q, i, kp, cd, cl, tp, pl, l, cs⟩ := p
          simp only [pkV] at *
          go_enter Tryz.func26, Tryz.ntmps26
          go_wp2_with fail
          refine (C.out _ (HBD.out.below ((Below.refl _ _).alloc (Nat.le_refl _) _)) ((Below.refl _ _).alloc (Nat.le_refl _) _)).mono ?_
          rintro e w1 ⟨rfl, hbd1, hk1⟩
          have HF := hide (And.intro hbd1 ((KeptN.of_below ((Below.refl _ w).alloc (Nat.le_refl _) _) hN).trans hk1))
          clear hbd1 hk1
          go_wp2
          go_end0
          exact ⟨rfl, HF.out⟩

set_option maxHeartbeats 2000000 in
theorem first_any (p : Pk) (aa ac : Option Addr) (ca cc : Nat) (w : World) (hk : 0 ≤ p.kind ∧ p.kind ≤ 15) (hq : 0 ≤ p.qos ∧ p.qos ≤ 1) :
    Calls Tryz.prog 30 #[pkV p aa ca ac cc] w fun e w' => e = .returned (.int .i64 (firstN p)) ∧ Below w.heap.size w w' := by
  generalize hE : firstN p = E
  obtain ⟨k, d, r, c, s, q, i, kp, cd, cl, tp, pl, l, cs⟩ := p
  simp only [firstN] at hE
  simp only [pkV]
  simp only at hk hq
  have hd := flagN_le d 8 (by omega)
  have hr := flagN_le r 1 (by omega)
  by_cases h3 : k = 3
  · rw [if_pos h3] at hE
    have HE := hide hE.symm
    clear hE
    subst h3
    go_enter Tryz.func30, Tryz.ntmps30
    go_wp2_with fail
    go_quiet ((go_at_call 53; exact Calls.quiet_of_same (flag_any _ _ _)))
    go_wp2
    go_ret
    exact ⟨by rw [HE.out]; rfl, ((Below.refl _ _).alloc (Nat.le_refl _) _).trans ⟨rfl, rfl, rfl, Nat.le_refl _, fun _ _ => rfl⟩⟩
  · rw [if_neg h3] at hE
    have e3 : (k == 3) = false := by simp [h3]
    by_cases h8 : k = 8 ∨ k = 10
    · rw [if_pos h8] at hE
      have HE := hide hE.symm
      clear hE h3 e3
      rcases h8 with rfl | rfl
      all_goals
        go_enter Tryz.func30, Tryz.ntmps30
        go_wp2
        go_ret
        exact ⟨by rw [HE.out]; rfl, (Below.refl _ _).alloc (Nat.le_refl _) _⟩
    · rw [if_neg h8] at hE
      have HE := hide hE.symm
      have e8 : (k == 8) = false := by simp; omega
      have e10 : (k == 10) = false := by simp; omega
      clear hE h3 h8
      go_enter Tryz.func30, Tryz.ntmps30
      go_wp2
      go_ret
      exact ⟨by rw [HE.out]; rfl, (Below.refl _ _).alloc (Nat.le_refl _) _⟩
end Go.Proofs.YtnjdpibgfbbkcabGreatDoor
/-
  Packets' bytes, as plain data; what a packet without an error is.
-/
namespace Go.Proofs.YtnjdpibgfbbkcabGreatDoor
open Go.RowKit Go.PlainAid

/-- a packet's bytes -/
def encP (p : Pk) : ByteArray := numsS 1 [firstN p] ++ longS (bodyS p).size ++ bodyS p
/-- what Encode answers -/
def encS (p : Pk) : ByteArray := if chkP p = 0 then encP p else ⟨#[]⟩

theorem firstE_ok {α : Type} (f : α → Int) (l : List α) (h : firstE f l = 0) : ∀ a ∈ l, f a = 0 := by
  induction l with
  | nil => simp
  | cons b l ih =>
    simp only [firstE] at h
    split at h
    · rename_i hne; exact absurd h hne
    · rename_i hz
      simp only [ne_eq, Decidable.not_not] at hz
      intro a ha
      rcases List.mem_cons.1 ha with rfl | ha
      · exact hz
      · exact ih h a ha

theorem countE_ok {n : Nat} (h : countE n = 0) : 1 ≤ n ∧ n ≤ 5 := by
  unfold countE at h
  split at h
  · omega
  · split at h <;> omega

theorem wn_asks (p : Pk) (h : ¬ (p.kind = 8 ∨ p.kind = 10)) : (wn p).asks = p.asks := by
  unfold wn
  (repeat' split) <;> first | rfl | (exfalso; omega)
theorem wn_codes (p : Pk) (h : p.kind ≠ 9) : (wn p).codes = p.codes := by
  unfold wn
  (repeat' split) <;> first | rfl | (exfalso; omega)
theorem wn_payload (p : Pk) (h : p.kind ≠ 3) : (wn p).payload = p.payload := by
  unfold wn
  (repeat' split) <;> first | rfl | (exfalso; omega)
theorem wn_qos (p : Pk) (h : p.kind ≠ 3) : (wn p).qos = p.qos := by
  unfold wn
  (repeat' split) <;> first | rfl | (exfalso; omega)

theorem bareB_ok {p : Pk} (h : bareB p = true) : p.dup = false ∧ p.retain = false ∧ p.clean = false ∧ p.session = false ∧ p.qos = 0 ∧ p.id = 0 ∧ p.keep = 0 ∧ p.code = 0 ∧ p.client = ⟨#[]⟩ ∧ p.topic = ⟨#[]⟩ ∧ p.payload = ⟨#[]⟩ ∧ p.asks = [] ∧ p.codes = [] := by
  simp only [bareB, Bool.and_eq_true, Bool.not_eq_true', Bool.or_eq_false_iff, bne_eq_false_iff_eq, Bool.not_eq_false', decide_eq_true_eq, decide_eq_false_iff_not] at h
  obtain ⟨⟨⟨⟨⟨⟨a, b⟩, c⟩, d⟩, ⟨⟨e, f⟩, g⟩, i⟩, ⟨j, k⟩, l⟩, m, n⟩ := h
  exact ⟨a, b, c, d, e, f, g, i, j, k, l, List.length_eq_zero_iff.1 (by omega), List.length_eq_zero_iff.1 (by omega)⟩

/-- what a packet that has no error is -/
theorem chkP_ok {p : Pk} (h : chkP p = 0) : kindB p.kind = true ∧ bareB (wn p) = true ∧ p.payload.size ≤ 200 ∧ p.asks.length ≤ 5 ∧ p.codes.length ≤ 5 ∧ (0 ≤ p.qos ∧ p.qos ≤ 1) := by
  unfold chkP at h
  cases hk : kindB p.kind with
  | false => rw [if_pos hk] at h; simp at h
  | true =>
    rw [if_neg (by simp [hk])] at h
    cases hb : bareB (wn p) with
    | false => rw [if_pos hb] at h; simp at h
    | true =>
      rw [if_neg (by simp [hb])] at h
      have hz := bareB_ok hb
      have ha : ¬ (p.kind = 8 ∨ p.kind = 10) → p.asks = [] := fun x => by rw [← wn_asks p x]; exact hz.2.2.2.2.2.2.2.2.2.2.2.1
      have hc : p.kind ≠ 9 → p.codes = [] := fun x => by rw [← wn_codes p x]; exact hz.2.2.2.2.2.2.2.2.2.2.2.2
      have hp : p.kind ≠ 3 → p.payload = ⟨#[]⟩ := fun x => by rw [← wn_payload p x]; exact hz.2.2.2.2.2.2.2.2.2.2.1
      have hq : p.kind ≠ 3 → p.qos = 0 := fun x => by rw [← wn_qos p x]; exact hz.2.2.2.2.1
      refine ⟨rfl, rfl, ?_, ?_, ?_, ?_⟩
      · by_cases h3 : p.kind = 3
        · rw [if_neg (by omega), if_neg (by omega), if_pos h3] at h
          unfold publishE at h
          split at h
          · rename_i hne; exact absurd h hne
          · split at h
            · simp at h
            · omega
        · rw [hp h3]; decide
      · by_cases h8 : p.kind = 8 ∨ p.kind = 10
        · rw [if_neg (by omega), if_neg (by omega), if_neg (by omega), if_neg (by omega)] at h
          by_cases hid : idE p.id = 0
          · rw [withIdE, if_neg (by simp [hid]), if_pos h8, asksE] at h
            by_cases hz0 : countE p.asks.length = 0
            · exact (countE_ok hz0).2
            · rw [if_pos hz0] at h; exact absurd h hz0
          · rw [withIdE, if_pos hid] at h; exact absurd h hid
        · rw [ha h8]; simp
      · by_cases h9 : p.kind = 9
        · rw [if_neg (by omega), if_neg (by omega), if_neg (by omega), if_neg (by omega)] at h
          by_cases hid : idE p.id = 0
          · rw [withIdE, if_neg (by simp [hid]), if_neg (by omega), if_pos h9, codesE] at h
            by_cases hz0 : countE p.codes.length = 0
            · exact (countE_ok hz0).2
            · rw [if_pos hz0] at h; exact absurd h hz0
          · rw [withIdE, if_pos hid] at h; exact absurd h hid
        · rw [hc h9]; simp
      · by_cases h3 : p.kind = 3
        · rw [if_neg (by omega), if_neg (by omega), if_pos h3] at h
          unfold publishE at h
          split at h
          · rename_i hne; exact absurd h hne
          · split at h
            · simp at h
            · split at h
              · simp at h
              · omega
        · rw [hq h3]; omega

theorem bodyS_size {p : Pk} (h1 : p.payload.size ≤ 200) (h2 : p.asks.length ≤ 5) (h3 : p.codes.length ≤ 5) : (bodyS p).size ≤ 400000 := by
  have hA := asksS_size p.kind p.asks
  have hC := numsS_size 1 p.codes
  have hI := numsS_size 2 [p.id]
  have hK := numsS_size 2 [p.keep]
  have hF := numsS_size 1 [4, flagN p.clean 2]
  have hG := numsS_size 1 [flagN p.session 1, p.code]
  have t1 := txtS_size p.topic
  have t2 := txtS_size p.client
  have t3 := txtS_size ⟨#[77, 81, 84, 84]⟩
  simp only [List.length_cons, List.length_nil] at hI hK hF hG
  unfold bodyS
  split
  · unfold connectS; simp only [ByteArray.size_append]; omega
  · split
    · omega
    · split
      · unfold publishS; simp only [ByteArray.size_append]
        split
        · omega
        · show _ + 0 + _ ≤ _; omega
      · split
        · decide
        · unfold withIdS; simp only [ByteArray.size_append]; omega

theorem Bd.after {N b : Nat} {bs : ByteArray} {w w' : World} (h : Bd N b bs w) (h1 : w'.heap[b]? = w.heap[b]?) (h2 : ∀ k, N ≤ k → w'.heap[k]? = w.heap[k]?) : Bd N b bs w' := by
  obtain ⟨p, v, hp, hb, ho, hne, hz⟩ := h
  exact ⟨p, v, hp, by rw [h1]; exact hb, ownsRowF_of_blocks ho fun g hg => h2 g (ho.lt g hg).1, hne, hz⟩
theorem Bd.block {N b : Nat} {bs : ByteArray} {w : World} (h : Bd N b bs w) : ∃ p v, w.heap[b]? = some (.cells #[p, v] 63 (0, 0)) := by
  obtain ⟨p, v, _, hb, _⟩ := h; exact ⟨p, v, hb⟩
end Go.Proofs.YtnjdpibgfbbkcabGreatDoor
