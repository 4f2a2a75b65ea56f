/-
  A writer's text in memory (a strings.Builder embedded in packet.writer), and what its methods do: Len, WriteString, String.
-/
import Derived.Test.YtnjdpibgfbbkcabGreatDoorPacketBase
import Derived.Test.YtnjdpibgfbbkcabGreatDoorRows
import Derived.Lib.FrozenHead
import Derived.Lib.UnsafeStr
import Derived.Lib.Walk
import Derived.Laws.Externs
import Derived.WalkKit
import Derived.ProofKit
import Derived.WalkSpells
import Derived.WalkLawsBesides
import Derived.Handy
import Derived.Shelf.RegionOpenPlain
namespace Go.Proofs.YtnjdpibgfbbkcabGreatDoor
open Go.RowKit Go.PlainAid

/-- below N all blocks but one are as they were, and so is from N on whatever is no row of bytes -/
structure KeptN (N b : Nat) (w w' : World) : Prop where
  os : w'.os = w.os
  tape : w'.tape = w.tape
  output : w'.output = w.output
  size : w.heap.size ≤ w'.heap.size
  block : ∀ k, k < N → k ≠ b → w'.heap[k]? = w.heap[k]?
  others : ∀ k o, w.heap[k]? = some o → k ≠ b → (∀ c fz, o ≠ .cells c 5 fz) → w'.heap[k]? = some o

theorem KeptN.refl (N b : Nat) (w : World) : KeptN N b w w := ⟨rfl, rfl, rfl, Nat.le_refl _, fun _ _ _ => rfl, fun _ _ h _ _ => h⟩
theorem KeptN.trans {N b : Nat} {u v w : World} (h : KeptN N b u v) (k : KeptN N b v w) : KeptN N b u w :=
  ⟨k.os.trans h.os, k.tape.trans h.tape, k.output.trans h.output, Nat.le_trans h.size k.size, fun i hi hb => (k.block i hi hb).trans (h.block i hi hb), fun i o hi hb ho => k.others i o (h.others i o hi hb ho) hb ho⟩
theorem KeptN.of_below {N b : Nat} {w w' : World} (h : Below w.heap.size w w') (hN : N ≤ w.heap.size) : KeptN N b w w' :=
  ⟨h.os, h.tape, h.output, h.size, fun k hk _ => h.block k (by omega), fun k o hk _ _ => by rw [h.block k (Array.getElem?_eq_some_iff.1 hk).1]; exact hk⟩
theorem KeptN.below {N b B : Nat} {w w' : World} (h : KeptN N b w w') (h1 : B ≤ N) (h2 : B ≤ b) : Below B w w' :=
  ⟨h.os, h.tape, h.output, h.size, fun k hk => h.block k (by omega) (by omega)⟩
theorem KeptN.cell {N b : Nat} {w w' : World} (h : KeptN N b w w') {p : Addr} (hp : p.block < N) (hb : p.block ≠ b) : w'.cell? p = w.cell? p := World.cell?_of_block (w := w) (h.block p.block hp hb)
theorem KeptN.mono {N M b : Nat} {w w' : World} (h : KeptN N b w w') (hM : M ≤ N) : KeptN M b w w' := ⟨h.os, h.tape, h.output, h.size, fun k hk hb => h.block k (by omega) hb, h.others⟩

/-- a writer in block b that holds bytes; its row is none or from N on -/
def Bd (N b : Nat) (bs : ByteArray) (w : World) : Prop :=
  ∃ p v, (p = .pointer none ∨ p = .pointer (some ⟨b, 0, none⟩)) ∧ w.heap[b]? = some (.cells #[p, v] 63 (0, 0)) ∧ w.ownsRowF N 5 1 v bs.size (Lib.strCells bs) ∧ v.ownBlock ≠ some b ∧ (v = .slice none 0 0 ↔ bs.size = 0)

theorem Bd.lt {N b : Nat} {bs : ByteArray} {w : World} (h : Bd N b bs w) : b < w.heap.size := by
  obtain ⟨p, v, _, hb, _⟩ := h
  exact (Array.getElem?_eq_some_iff.1 hb).1

theorem Bd.fresh (N : Nat) (w : World) : Bd N w.heap.size ⟨#[]⟩ (w.alloc (.cells #[.pointer none, .slice none 0 0] 63 (0, 0))) :=
  ⟨_, _, .inl rfl, Go.heap_alloc_new w _, World.ownsRowF_nil _ _ _ _, by simp [Value.ownBlock], ⟨fun _ => rfl, fun _ => rfl⟩⟩

theorem ownsRowF_of_blocks {w w' : World} {N : Nat} {e : TypeId} {v : Value} {n : Nat} {xs : List Value} (h : w.ownsRowF N e 1 v n xs) (hk : ∀ g, v.ownBlock = some g → w'.heap[g]? = w.heap[g]?) : w'.ownsRowF N e 1 v n xs := by
  refine ⟨h.1, ?_⟩
  rcases h.2 with hn | ⟨g, cap, cur, fz, rfl, hb, hg, rest⟩
  · exact .inl hn
  · exact .inr ⟨g, cap, cur, fz, rfl, hb, by rw [hk g rfl]; exact hg, rest⟩

/-- what lies below and is not touched leaves a writer as it was -/
theorem Bd.kept {N b : Nat} {bs : ByteArray} {w w' : World} (h : Bd N b bs w) (hk : ∀ k, k < w.heap.size → w'.heap[k]? = w.heap[k]?) : Bd N b bs w' := by
  have hl := h.lt
  obtain ⟨p, v, hp, hb, ho, hne, hz⟩ := h
  refine ⟨p, v, hp, by rw [hk b hl]; exact hb, ownsRowF_of_blocks ho fun g hg => hk g (ho.lt g hg).2, hne, hz⟩
theorem Bd.below {N b : Nat} {bs : ByteArray} {w w' : World} (h : Bd N b bs w) (hb : Below w.heap.size w w') : Bd N b bs w' := h.kept hb.block
theorem Bd.mono {N M b : Nat} {bs : ByteArray} {w : World} (h : Bd N b bs w) (hM : M ≤ N) : Bd M b bs w := by
  obtain ⟨p, v, hp, hb, ho, hne, hz⟩ := h
  refine ⟨p, v, hp, hb, ⟨ho.1, ?_⟩, hne, hz⟩
  rcases ho.2 with hn | ⟨g, cap, cur, fz, rfl, hbb, hg, rest⟩
  · exact .inl hn
  · exact .inr ⟨g, cap, cur, fz, rfl, by omega, hg, rest⟩
/-- a writer under another one's writes -/
theorem Bd.other {N M b c : Nat} {bs : ByteArray} {w w' : World} (h : Bd N b bs w) (hM : w.heap.size ≤ M) (hc : c ≠ b) (hcw : ∃ p v, w.heap[c]? = some (.cells #[p, v] 63 (0, 0))) (hk : KeptN M c w w') : Bd N b bs w' := by
  have hl := h.lt
  obtain ⟨p, v, hp, hb, ho, hne, hz⟩ := h
  refine ⟨p, v, hp, by rw [hk.block b (by omega) (fun e => hc e.symm)]; exact hb, ownsRowF_of_blocks ho fun g hg => hk.block g (by have := (ho.lt g hg).2; omega) (fun e => ?_), hne, hz⟩
  obtain ⟨p', v', hc'⟩ := hcw
  exact Lib.ownBlock_neF ho hc' (by decide) (by rw [hg, e])

theorem strCells_append (a b : ByteArray) : Lib.strCells (a ++ b) = Lib.strCells a ++ Lib.strCells b := by
  simp [Lib.strCells]

set_option maxHeartbeats 1000000 in
set_option maxRecDepth 100000 in
theorem copyCheck_used (b : Nat) (w : World) (h0 : w.cell? ⟨b, 0, none⟩ = some (.pointer (some ⟨b, 0, none⟩))) :
    Calls Tryz.prog 57 #[.pointer (some ⟨b, 0, none⟩)] w fun e w' => e = .returned (.tuple #[]) ∧ w' = w := by
  obtain ⟨j, hj, _⟩ := Option.map_eq_some_iff.1 (show (Tryz.prog.info? 61).map (·.size) = some 2 by kernel_rfl)
  go_enter Tryz.func57, Tryz.ntmps57
  go_wp2
  rw [Lib.run_neq_ptr_same w _ Tryz.underlying58 hj]
  go_wp2
  go_end0
  exact ⟨rfl, rfl⟩

set_option maxHeartbeats 1000000 in
set_option maxRecDepth 100000 in
theorem copyCheck_fresh (b : Nat) (w : World) (h0 : w.cell? ⟨b, 0, none⟩ = some (.pointer none)) (hsh : w.shape? b = some (63, 2)) (hfz : w.frozen? ⟨b, 0, none⟩ = false) :
    Calls Tryz.prog 57 #[.pointer (some ⟨b, 0, none⟩)] w fun e w' => e = .returned (.tuple #[]) ∧ w' = w.setCell ⟨b, 0, none⟩ (.pointer (some ⟨b, 0, none⟩)) := by
  obtain ⟨j, hj, hjs⟩ := Option.map_eq_some_iff.1 (show (Tryz.prog.info? 61).map (·.size) = some 2 by kernel_rfl)
  go_enter Tryz.func57, Tryz.ntmps57
  go_wp2
  rw [Lib.run_to_unsafe w ⟨b, 0, none⟩ Tryz.underlying58 Tryz.underlying103 hj (by rw [hjs]; decide) hsh (Nat.zero_lt_succ 1)]
  simp only [Result.andThen]
  rw [Oper.upon_value]
  go_wp2
  rw [run_callFunc_extern Tryz.func75 (by kernel_rfl) (by kernel_rfl) (by kernel_rfl) (e := Extern.AbiNoEscape.same) (by kernel_rfl)]
  rw [Lib.run_noEscape]
  simp only [Result.andThen]
  rw [Oper.upon_value]
  go_wp2
  rw [Lib.run_from_unsafe w ⟨b, 0, none⟩ Tryz.underlying103 Tryz.underlying58 hj hsh (by kernel_rfl)]
  simp only [Result.andThen]
  rw [Oper.upon_value]
  go_wp2
  go_end0
  exact ⟨rfl, rfl⟩

theorem copyCheck_any (N b : Nat) (bs : ByteArray) (w : World) (h : Bd N b bs w) :
    Calls Tryz.prog 57 #[.pointer (some ⟨b, 0, none⟩)] w fun e w' => e = .returned (.tuple #[]) ∧ (∃ v, w'.heap[b]? = some (.cells #[.pointer (some ⟨b, 0, none⟩), v] 63 (0, 0)) ∧ w'.ownsRowF N 5 1 v bs.size (Lib.strCells bs) ∧ v.ownBlock ≠ some b ∧ (v = .slice none 0 0 ↔ bs.size = 0)) ∧ KeptN N b w w' := by
  obtain ⟨p, v, hp, hb, ho, hne, hz⟩ := h
  rcases hp with rfl | rfl
  · refine (copyCheck_fresh b w (by simp [World.cell?, hb]) (by simp [World.shape?, hb]) (by simp [World.frozen?, hb])).mono ?_
    rintro e w' ⟨rfl, rfl⟩
    refine ⟨rfl, ⟨v, by simp [World.setCell, Array.getElem?_modify, hb], ?_, hne, hz⟩, rfl, rfl, rfl, by simp [World.setCell], fun k _ hk => Below.heap_setCell _ _ _ _ hk, fun k o hk hb _ => by rw [Below.heap_setCell _ _ _ _ hb]; exact hk⟩
    exact ownsRowF_of_blocks ho fun g hg => Below.heap_setCell _ _ _ _ (fun e => hne (by rw [hg, e]))
  · refine (copyCheck_used b w (by simp [World.cell?, hb])).mono ?_
    rintro e w' ⟨rfl, rfl⟩
    exact ⟨rfl, ⟨v, hb, ho, hne, hz⟩, KeptN.refl _ _ _⟩

theorem slice_form {w : World} {N : Nat} {e : TypeId} {v : Value} {n : Nat} {xs : List Value} (h : w.ownsRowF N e 1 v n xs) : ∃ ao n' cap, v = .slice ao n' cap := by
  rcases h.2 with ⟨hv, _⟩ | ⟨g, cap, cur, fz, hv, _⟩
  · exact ⟨_, _, _, hv⟩
  · exact ⟨_, _, _, hv⟩

set_option maxHeartbeats 2000000 in
set_option maxRecDepth 100000 in
theorem writeString_any (N b : Nat) (bs s : ByteArray) (w : World) (h : Bd N b bs w) (hlen : bs.size + s.size ≤ 140737488355328) (hN : N ≤ w.heap.size) :
    Calls Tryz.prog 31 #[.pointer (some ⟨b, 0, none⟩), .string s] w fun e w' => e = .returned (.tuple #[.int .i64 s.size, .nilIface]) ∧ Bd N b (bs ++ s) w' ∧ KeptN N b w w' := by
  obtain ⟨i0, hi, hz0, hz1, hz2⟩ := info_parts (show (Tryz.prog.info? 5).map (fun i => (i.zero, i.size, i.bytes)) = some (some (.int .u8 0), 1, 1) by kernel_rfl)
  go_enter Tryz.func31, Tryz.ntmps31
  go_wp2_with (go_at_call 57; refine (copyCheck_any N b bs _ h).mono ?_)
  rintro e w1 ⟨rfl, ⟨v, hbk, hown, hne, hz⟩, hk1⟩
  have c0 : w1.cell? ⟨b, 0, none⟩ = some (.pointer (some ⟨b, 0, none⟩)) := by rw [Lib.cell_of_heap hbk]; rfl
  have c1 : w1.cell? ⟨b, 1, none⟩ = some v := by rw [Lib.cell_of_heap hbk]; rfl
  have HZ := hide hz
  clear hz
  go_wp2_with (at_builtin; refine Lib.wpList_append_own_stringF _ rfl _ _ 59 9 rfl N 5 i0 Tryz.underlying59 Tryz.underlying9 hi hz0 hz1 hz2 _ _ _ rfl hown s rfl ?c3 ?c4 ?c5 ?_)
  case c3 => unfold maxLen; omega
  case c4 => omega
  case c5 => have := hk1.size; omega
  intro v' w2 hown' hgrow hnil
  have HNIL := hide hnil
  clear hnil
  have hlt : b < w1.heap.size := (Array.getElem?_eq_some_iff.1 hbk).1
  have hb2 : w2.heap[b]? = some (.cells #[.pointer (some ⟨b, 0, none⟩), v] 63 (0, 0)) := by
    rw [hgrow.block b hlt (fun e => hne e.symm)]
    exact hbk
  have d0 : w2.cell? ⟨b, 0, none⟩ = some (.pointer (some ⟨b, 0, none⟩)) := by rw [Lib.cell_of_heap hb2]; rfl
  have d1 : w2.cell? ⟨b, 1, none⟩ = some v := by rw [Lib.cell_of_heap hb2]; rfl
  have f1 : w2.frozen? ⟨b, 1, none⟩ = false := Lib.frozen_of_heap hb2 1
  obtain ⟨ao, n', cap, rfl⟩ := slice_form hown'
  have hne' : (Value.slice ao n' cap).ownBlock ≠ some b := Lib.ownBlock_neF hown' hb2 (by decide)
  go_wp2
  go_ret2
  refine ⟨rfl, ⟨_, _, .inr rfl, by simp [World.setCell, Array.getElem?_modify, hb2], ?_, hne', ?_⟩, ?_⟩
  · rw [strCells_append]
    refine ownsRowF_of_blocks (w := w2) ?_ fun g hg => Below.heap_setCell _ _ _ _ (fun e => hne' (by rw [hg, e]))
    simpa using hown'
  · rw [HNIL.out, HZ.out]
    simp
  · refine hk1.trans ⟨hgrow.os, hgrow.tape, hgrow.output, Nat.le_trans hgrow.size (by simp [World.setCell]), fun k hk hkb => ?_, fun k o hk hkb hu => ?_⟩
    · rw [Below.heap_setCell _ _ _ _ hkb, hgrow.block k (by have := hk1.size; omega) (fun e => by have := (hown.lt k e.symm).1; omega)]
    · rw [Below.heap_setCell _ _ _ _ hkb, hgrow.block k (Array.getElem?_eq_some_iff.1 hk).1 (fun e => ?_)]
      · exact hk
      · rcases hown.2 with ⟨rfl, _⟩ | ⟨g, cap', cur, fz, rfl, _, hg, _⟩
        · simp [Value.ownBlock] at e
        · simp only [Value.ownBlock, Option.some.injEq] at e
          subst e
          rw [hg] at hk
          exact hu cur fz (Option.some.inj hk).symm

set_option maxHeartbeats 1000000 in
theorem len_any (N b : Nat) (bs : ByteArray) (w : World) (h : Bd N b bs w) :
    Calls Tryz.prog 28 #[.pointer (some ⟨b, 0, none⟩)] w fun e w' => e = .returned (.int .i64 bs.size) ∧ w' = w := by
  obtain ⟨p, v, hp, hb, ho, hne, hz⟩ := h
  have c1 : w.cell? ⟨b, 1, none⟩ = some v := by rw [Lib.cell_of_heap hb]; rfl
  rcases ho.2 with ⟨rfl, h0⟩ | ⟨g, cap, cur, fz, rfl, _⟩
  · have H0 := hide h0
    clear hz h0 ho hb hne hp
    go_enter Tryz.func28, Tryz.ntmps28
    go_wp2
    go_ret
    exact ⟨by rw [H0.out]; rfl, rfl⟩
  · clear hz ho hb hne hp
    go_enter Tryz.func28, Tryz.ntmps28
    go_wp2
    go_ret
    exact ⟨rfl, rfl⟩

set_option maxHeartbeats 1000000 in
set_option maxRecDepth 100000 in
theorem string_any (N M b : Nat) (bs : ByteArray) (w : World) (h : Bd N b bs w) (hM : ∀ p v, w.heap[b]? = some (.cells #[p, v] 63 (0, 0)) → ∀ g, v.ownBlock = some g → g < M) :
    Calls Tryz.prog 32 #[.pointer (some ⟨b, 0, none⟩)] w fun e w' => e = .returned (.string bs) ∧ KeptN N b w w' ∧ ∀ k, M ≤ k → w'.heap[k]? = w.heap[k]? := by
  obtain ⟨p, v, hp, hbk, hown, hne, hz⟩ := h
  rcases hown.2 with ⟨rfl, h0⟩ | ⟨g, cap, cur, fz, rfl, hbg, hg, hfz, hnc, hcm, hcs, htake⟩
  · have hbs : bs = ⟨#[]⟩ := ByteArray.ext (Array.eq_empty_of_size_eq_zero h0)
    have HBS := hide hbs
    have c1 : w.drew.cell? ⟨b, 1, none⟩ = some (.slice none 0 0) := by
      have : w.drew.heap[b]? = some (.cells #[p, .slice none 0 0] 63 (0, 0)) := hbk
      rw [Lib.cell_of_heap this]; rfl
    have hUS : ∀ W, (Builtin.unsafeString_ #[91, 3] 9 #[.pointer none, .int .i64 0]).run Tryz.prog W = .ok (.string .empty) W := fun W => Lib.run_unsafeString_none W _ _ _ _
    have hSD : ∀ W, (Builtin.unsafeSliceData_ #[59] 91 #[.slice none 0 0]).run Tryz.prog W = .ok (.pointer none) W := fun W => rfl
    have mixed : Tryz.prog.follows Departure.mixedOrders = true := by kernel_rfl
    clear hz hown hne hp hbk h0 hbs hM
    go_enter Tryz.func32, Tryz.ntmps32
    go_wp2
    go_region_o
    all_goals (go_wp2; go_ret; exact ⟨by rw [HBS.out]; rfl, ⟨rfl, rfl, rfl, Nat.le_refl _, fun _ _ _ => rfl, fun _ _ h _ _ => h⟩, fun _ _ => rfl⟩)
  · have hsz : bs.size ≠ 0 := fun e => by have := hz.2 e; simp at this
    have hll : bs.data.toList.length = bs.size := by simp
    have h0 : bs.data.toList ≠ [] := fun e => hsz (by rw [← hll, e]; rfl)
    have mixed : Tryz.prog.follows Departure.mixedOrders = true := by kernel_rfl
    have c1 : w.drew.cell? ⟨b, 1, none⟩ = some (.slice (some ⟨g, 0, none⟩) bs.size cap) := by
      have : w.drew.heap[b]? = some (.cells #[p, .slice (some ⟨g, 0, none⟩) bs.size cap] 63 (0, 0)) := hbk
      rw [Lib.cell_of_heap this]; rfl
    have hSD : (Builtin.unsafeSliceData_ #[59] 91 #[.slice (some ⟨g, 0, none⟩) bs.size cap]).run Tryz.prog w.drew = .ok (.pointer (some ⟨g, 0, none⟩)) w.drew :=
      Lib.run_unsafeSliceData_row _ _ _ _ _ _ (by omega)
    have hUS : (Builtin.unsafeString_ #[91, 3] 9 #[.pointer (some ⟨g, 0, none⟩), .int .i64 bs.size]).run Tryz.prog w.drew = .ok (.string bs) (w.drew.freeze ⟨g, 0, none⟩ bs.size) := by
      have := Lib.run_unsafeString_row (P := Tryz.prog) w.drew 91 3 9 5 Tryz.underlying91 (by kernel_rfl) g cur.size (by have hg' : w.drew.heap[g]? = some (.cells cur 5 fz) := hg; simp [World.shape?, hg']) bs.data.toList h0 (by omega) (by unfold maxLen at hcm; omega) (fun j x hx => hown.cells (g := g) rfl j (.int .u8 x.toNat) (by simp [Lib.strCells, hx]))
      rw [hll] at this
      simpa using this
    have hfr : ∀ k, k ≠ g → (w.drew.freeze ⟨g, 0, none⟩ bs.size).heap[k]? = w.heap[k]? := by
      intro k hk
      unfold World.freeze
      split
      · rfl
      · simp only [Array.getElem?_modify]
        rw [if_neg (fun e => hk e.symm)]
        rfl
    have hfb := Lib.below_freeze (Below.drew (Below.refl N w)) (p := ⟨g, 0, none⟩) hbg bs.size
    have HF : Hid (KeptN N b w (w.drew.freeze ⟨g, 0, none⟩ bs.size) ∧ ∀ k, M ≤ k → (w.drew.freeze ⟨g, 0, none⟩ bs.size).heap[k]? = w.heap[k]?) := by
      refine ⟨⟨hfb.os, hfb.tape, hfb.output, hfb.size, fun k hk _ => hfb.block k hk, fun k o hk _ hu => ?_⟩, fun k hk => hfr k (by have := hM _ _ hbk g rfl; omega)⟩
      rw [hfr k (fun e => ?_)]
      · exact hk
      · subst e
        rw [hg] at hk
        exact hu cur fz (Option.some.inj hk).symm
    have H1 := hide hll
    have H2 := hide h0
    clear hfr hfb hM
    clear hll h0 hsz hfz hnc
    clear hz hown hne hp hbk hg hcs htake
    go_enter Tryz.func32, Tryz.ntmps32
    go_wp2
    go_region_o
    all_goals (go_wp2; go_ret; exact ⟨rfl, HF.out⟩)
end Go.Proofs.YtnjdpibgfbbkcabGreatDoor
